/- QDb: joined of RVr, Rvl, Tc, Rs0. -/
import Derived.Test.YtbdabdjpgmnejaaGreatQDa
import Derived.Test.YtbdabdjpgmnejaaGreatQBh
import Derived.Deep.CutRange
import Derived.Deep.AppendLies
import Derived.Deep.RegionLaw
import Derived.Test.YtbdabdjpgmnejaaGreatQBc
import Derived.Test.YtbdabdjpgmnejaaGreatQBf
/- Contract of the reference's Vars. -/
namespace Go.Proofs.YtbdabdjpgmnejaaGreat
set_option linter.unusedVariables false
set_option linter.unusedSimpArgs false
open Go.RowKit

def ddStep (acc : List Int) (z : Int) : List Int := if acc.contains z then acc else acc ++ [z]
def dd (acc zs : List Int) : List Int := zs.foldl ddStep acc
theorem mem_ddStep {acc : List Int} {z y : Int} : y ∈ ddStep acc z ↔ y ∈ acc ∨ y = z := by
  unfold ddStep
  split
  · rename_i h
    have : z ∈ acc := by simpa using h
    constructor
    · exact .inl
    · rintro (h | rfl)
      · exact h
      · exact this
  · simp
theorem mem_dd {acc zs : List Int} {y : Int} : y ∈ dd acc zs ↔ y ∈ acc ∨ y ∈ zs := by
  induction zs generalizing acc with
  | nil => simp [dd]
  | cons z zs ih => rw [dd, List.foldl_cons]; rw [show zs.foldl ddStep (ddStep acc z) = dd (ddStep acc z) zs from rfl, ih, mem_ddStep]; simp [or_assoc]
theorem dd_snoc (acc zs : List Int) (z : Int) : dd acc (zs ++ [z]) = ddStep (dd acc zs) z := by simp [dd]
theorem dd_step (acc acc0 : List Int) (z : Int) : dd acc (ddStep acc0 z) = ddStep (dd acc acc0) z := by
  by_cases h : acc0.contains z
  · have h1 : ddStep acc0 z = acc0 := by rw [ddStep, if_pos h]
    have h2 : (dd acc acc0).contains z = true := by simpa using mem_dd.2 (.inr (by simpa using h))
    rw [h1, ddStep, if_pos h2]
  · have h1 : ddStep acc0 z = acc0 ++ [z] := by rw [ddStep, if_neg h]
    rw [h1, dd_snoc]
theorem dd_dd (acc acc0 zs : List Int) : dd acc (dd acc0 zs) = dd (dd acc acc0) zs := by
  induction zs generalizing acc0 with
  | nil => rfl
  | cons z zs ih =>
    show dd acc (dd (ddStep acc0 z) zs) = dd (ddStep (dd acc acc0) z) zs
    rw [ih, dd_step]
theorem dd_length (acc zs : List Int) : (dd acc zs).length ≤ acc.length + zs.length := by
  induction zs generalizing acc with
  | nil => simp [dd]
  | cons z zs ih =>
    have h1 := ih (ddStep acc z)
    have h2 : (ddStep acc z).length ≤ acc.length + 1 := by unfold ddStep; split <;> simp
    show (dd (ddStep acc z) zs).length ≤ _
    simp; omega
mutual
def T.rv : T → List Int
  | .node h ts => T.rvs (if h < 0 then [-1 - h] else []) ts
def T.rvs : List Int → List T → List Int
  | acc, [] => acc
  | acc, t :: ts => T.rvs (dd acc t.rv) ts
end
theorem T.rvs_snoc (acc : List Int) (ts : List T) (t : T) : T.rvs acc (ts ++ [t]) = dd (T.rvs acc ts) t.rv := by
  induction ts generalizing acc with
  | nil => simp [T.rvs]
  | cons x ts ih => rw [List.cons_append, T.rvs, ih, T.rvs]
theorem varStep_dd (acc : List Int) (d : Nat) (h : Int) (ts : List T) : varStep acc (d, .node h ts) = dd acc (if h < 0 then [-1 - h] else []) := by
  show (if h < 0 then (if acc.contains (-1 - h) then acc else acc ++ [-1 - h]) else acc) = _
  by_cases q : h < 0
  · rw [if_pos q, if_pos q]; rfl
  · rw [if_neg q, if_neg q]; rfl
mutual
theorem T.subs_rv (t : T) (d : Nat) (acc : List Int) : (T.subs d t).foldl varStep acc = dd acc t.rv := by
  match t with
  | .node h ts =>
    rw [T.subs, List.foldl_cons, varStep_dd, T.subss_rv ts (d + 1), T.rv]
    exact (T.rvs_dd acc _ ts).symm
theorem T.subss_rv (ts : List T) (d : Nat) (acc : List Int) : (T.subss d ts).foldl varStep acc = T.rvs acc ts := by
  match ts with
  | [] => rfl
  | t :: ts => rw [T.subss, List.foldl_append, T.subs_rv t, T.subss_rv ts, T.rvs]
theorem T.rvs_dd (acc acc0 : List Int) (ts : List T) : dd acc (T.rvs acc0 ts) = T.rvs (dd acc acc0) ts := by
  match ts with
  | [] => rfl
  | t :: ts => rw [T.rvs, T.rvs, T.rvs_dd acc _ ts, dd_dd]
end
theorem T.rv_eq (t : T) : t.rv = varsOf (T.subs 1 t) := by
  have h : dd [] t.rv = t.rv := by
    match t with
    | .node h ts =>
      rw [T.rv, T.rvs_dd]
      congr 1
      split <;> simp [dd, ddStep]
  rw [varsOf, T.subs_rv, h]
theorem T.rv_length (t : T) : t.rv.length ≤ t.size := by
  rw [T.rv_eq]
  have : ∀ (pre : List (Nat × T)) (acc : List Int), (pre.foldl varStep acc).length ≤ acc.length + pre.length := by
    intro pre
    induction pre with
    | nil => intro acc; simp
    | cons x pre ih => intro acc; rw [List.foldl_cons]; have h1 := ih (varStep acc x); have h2 := varStep_length acc x; simp; omega
  have := this (T.subs 1 t) []
  rw [T.subs_length] at this
  simpa [varsOf] using this

def RvPost (zs : List Int) (w : World) (e : Ending) (w' : World) : Prop := ∃ a c, e = .returned (.slice a zs.length c) ∧ IsIs w'.heap.size w' zs a c ∧ (∀ g o m, a = some ⟨g, o, m⟩ → w.heap.size ≤ g) ∧ Below w.heap.size w w'
theorem own_is {w : World} {base : Nat} {v : Value} {zs : List Int} (h : w.ownsRow base 3 1 v zs.length (zs.map (Value.int .i64))) : ∃ a c, v = .slice a zs.length c ∧ IsIs w.heap.size w zs a c ∧ ∀ g o m, a = some ⟨g, o, m⟩ → base ≤ g := by
  rcases h.2 with ⟨rfl, h0⟩ | ⟨g, cap, cur, rfl, hg, hh, hn, hc, r⟩
  · have : zs = [] := List.eq_nil_of_length_eq_zero h0
    subst this
    exact ⟨none, 0, rfl, ⟨by simp, by simp [maxLen], .inl rfl⟩, fun _ _ _ h => by cases h⟩
  · refine ⟨_, cap, rfl, ⟨hn, hc, .inr ⟨g, 0, rfl, (Array.getElem?_eq_some_iff.1 hh).1, fun j z hz => ?_⟩⟩, fun g' o' m' h => by cases h; exact hg⟩
    have hj : j < zs.length := (List.getElem?_eq_some_iff.1 hz).1
    rw [Nat.zero_add, h.cellAt j (by omega), List.getElem?_map, hz]
    rfl

def RvI (t : T) (acc0 : List Int) (w wL : World) (out i : Value) (wr : World) : Prop := ∃ k : Nat, k ≤ t.args.length ∧ i = .int .i64 k ∧ wr.ownsRow (w.heap.size + 1) 3 1 out (T.rvs acc0 (t.args.take k)).length ((T.rvs acc0 (t.args.take k)).map (Value.int .i64)) ∧ Below (w.heap.size + 1) wL wr
/-- A list stays where another row grows. -/
theorem is_grown {w w' : World} {zs : List Int} {a : Option Addr} {c : Nat} {row : Option Nat} (h : IsIs w.heap.size w zs a c) (hg : w.grownBy w' row) (hr : ∀ q, row = some q → ∀ g o m, a = some ⟨g, o, m⟩ → q ≠ g) : IsIs w'.heap.size w' zs a c := by
  obtain ⟨h1, h2, h3⟩ := h
  refine ⟨h1, h2, ?_⟩
  rcases h3 with h3 | ⟨b, o, rfl, hb, h3⟩
  · exact .inl h3
  · exact .inr ⟨b, o, rfl, Nat.lt_of_lt_of_le hb hg.size, fun j z hz => (World.cell?_of_block (a := ⟨b, o + j, none⟩) (hg.block b hb (fun e => hr b e.symm b o none rfl rfl))).trans (h3 j z hz)⟩
def RvJ (acc l : List Int) (w wL : World) (al : Option Addr) (cl : Nat) (out i : Value) (wr : World) : Prop := ∃ k : Nat, k ≤ l.length ∧ i = .int .i64 k ∧ wr.ownsRow (w.heap.size + 1) 3 1 out (dd acc (l.take k)).length ((dd acc (l.take k)).map (Value.int .i64)) ∧ Below (w.heap.size + 1) wL wr ∧ IsIs wr.heap.size wr l al cl ∧ (∀ q, out.ownBlock = some q → ∀ g o m, al = some ⟨g, o, m⟩ → q ≠ g)

set_option maxRecDepth 100000 in
set_option maxHeartbeats 4000000 in
theorem refVars_any : ∀ (N : Nat) (t : T), t.size ≤ N → t.size ≤ 1000000000000 → ∀ (n₀ : Nat) (a : Option Addr) (c : Nat) (w : World), n₀ ≤ w.heap.size → (Lit.int .i64 t.head).wf = true → IsArgs n₀ w t.args a c →
    Calls Tryz.prog 85 #[tm t.head a t.args.length c] w (RvPost t.rv w) := by
  intro N
  induction N with
  | zero => intro t ht; have := T.size_pos t; omega
  | succ N ih =>
    intro t ht hbig n₀ a c w hn hwf hA
    have IH := Lib.hid ih
    clear ih
    have hw := wf_low hwf
    have hlc : t.args.length ≤ c ∧ c ≤ maxLen := ⟨hA.1, hA.2.1⟩
    unfold maxLen at hlc
    obtain ⟨hl1, hl2⟩ := hlc
    have HA := Lib.hid hA
    clear hA hwf
    have HRV := Lib.hid (show t.rv = T.rvs (if t.head < 0 then [-1 - t.head] else []) t.args from by cases t; rfl)
    have HACCL := Lib.hid (show ∀ k, (T.rvs (if t.head < 0 then [-1 - t.head] else []) (t.args.take k)).length ≤ t.size from fun k => by
      have h1 := T.rv_length (.node t.head (t.args.take k))
      rw [T.rv] at h1
      refine Nat.le_trans h1 ?_
      have e1 := T.size_eq (.node t.head (t.args.take k))
      rw [T.args_node] at e1
      have e2 := T.size_eq t
      have h3 := T.sizes_append (t.args.take k) (t.args.drop k)
      rw [List.take_append_drop] at h3
      omega)
    obtain ⟨i0, hi, hz0, hz1, hz2⟩ := info_parts info3
    go_enter Tryz.func85, Tryz.ntmps85
    generalize hz : (if t.head < 0 then [-1 - t.head] else []) = acc0 at HRV HACCL
    have HZ := Lib.hid hz
    clear hz
    go_upto_if 9 with fail
    go_cut [3] from 9 (fun v3 wx => wx.ownsRow (w.heap.size + 1) 3 1 v3 acc0.length (acc0.map (Value.int .i64)) ∧ Below (w.heap.size + 1) (w.alloc (tmCells t.head a t.args.length c)) wx)
    case first =>
      by_cases hneg : t.head < 0
      · have hac := HZ.out
        rw [if_pos hneg] at hac
        subst hac
        go_wp2_with (at_builtin; refine stopHere ?_)
        refine Lib.hid ?_
        refine wpList_append_own _ rfl _ _ 40 rfl (w.heap.size + 1) 3 i0 (.int .i64 0) 1 8 Tryz.underlying40 hi hz0 hz1 hz2 rfl (by decide) _ 0 _ rfl (World.ownsRow_nil _ _ _ _) ⟨w.heap.size + 1, 0, none⟩ 1 1 [.int .i64 (-1 - t.head)] (by rfl) rfl (cell_one_at _ _ _ _ (by simp)) (by simp [Value.oneCell']) (by unfold maxLen; omega) (by omega) (by simp) ?_
        intro v' w2 hown2 hgr2 _
        have HO2 := Lib.hid hown2
        have HG2 := Lib.hid hgr2
        clear hown2 hgr2
        go_wp2
        go_meet
        exact ⟨HO2.out, (((Below.refl _ _).alloc (by simp) _).grown HG2.out (by simp) (fun q hq => by cases hq))⟩
      · have hac := HZ.out
        rw [if_neg hneg] at hac
        subst hac
        go_wp2
        go_meet
        exact ⟨World.ownsRow_nil _ _ _ _, Below.refl _ _⟩
    case rest =>
      obtain ⟨hown, hB0⟩ := hcut
      have HO0 := Lib.hid hown
      have HB0 := Lib.hid hB0
      have hz0' := hB0.size
      rw [heap_alloc_size] at hz0'
      clear hown hB0
      go_wp2
      go_loopw [3, 4, 5, 6] (fun out i _ _ wr => RvI t acc0 w (w.alloc (tmCells t.head a t.args.length c)) out i wr) (fun _ i _ _ _ => t.args.length - (intOf i).toNat)
      case atStart => exact ⟨0, Nat.zero_le _, rfl, HO0.out, HB0.out⟩
      case round =>
        obtain ⟨k, hk, rfl, hown, hB⟩ := hrel
        have HO := Lib.hid hown
        have HB := Lib.hid hB
        have hbz := hB.size
        rw [heap_alloc_size] at hbz
        have hbox : wr.cell? ⟨w.heap.size, 1, none⟩ = some (.slice a t.args.length c) := (hB.cell (p := ⟨w.heap.size, 1, none⟩) (by simp)).trans (by simp [go_sem])
        clear hown hB
        by_cases hlt : k < t.args.length
        · have hwb : Below n₀ w wr := ((Below.refl n₀ w).alloc hn _).trans (HB.out.mono (by omega))
          obtain ⟨b, o, s, a', c', rfl, hbn, hs, hswf, hc1, hc2, hA'⟩ := (HA.out.below hwb).elem (i := k) hlt
          have hsN : s.size ≤ N := by have := T.size_lt_of_mem hs; have := T.size_eq t; omega
          have hsb : s.size ≤ 1000000000000 := by have := T.size_lt_of_mem hs; have := T.size_eq t; omega
          have hk0 : (0 : Int) ≤ (k : Int) := Int.natCast_nonneg _
          have hk1 : (k : Int) < (t.args.length : Int) := by omega
          have hbw : b < wr.heap.size := by omega
          have HSS := Lib.hid hs
          have CALL := Lib.hid (IH.out s hsN hsb n₀ a' c' wr (by omega) hswf hA')
          clear hs hA' hwb hswf
          go_wp2_with fail
          refine CALL.out.mono ?_
          rintro e w2 ⟨al, cl, rfl, hL, hfr, hb2⟩
          obtain ⟨l, hl⟩ : ∃ l, s.rv = l := ⟨_, rfl⟩
          rw [hl] at hL ⊢
          have hlen : l.length ≤ 1000000000000 := by rw [← hl]; exact Nat.le_trans (T.rv_length s) hsb
          have HLV := Lib.hid hl
          have HL := Lib.hid hL
          have HNE := Lib.hid (show ∀ q, Value.ownBlock u3 = some q → ∀ g o m, al = some ⟨g, o, m⟩ → q ≠ g from fun q hq g o m e => by have h1 := (HO.out.lt q hq).2; have h2 := hfr g o m e; omega)
          have HOw := Lib.hid (ownsRow_later HO.out hb2)
          have HB2 := Lib.hid (HB.out.trans (hb2.mono (by omega)))
          have hzw2 := hb2.size
          obtain ⟨acc, hacc⟩ : ∃ acc, T.rvs acc0 (t.args.take k) = acc := ⟨_, rfl⟩
          rw [hacc] at HOw
          have HACC := Lib.hid hacc
          clear hl hL hb2 hacc CALL hfr
          have hll : l.length ≤ cl ∧ cl ≤ maxLen := ⟨HL.out.1, HL.out.2.1⟩
          unfold maxLen at hll
          obtain ⟨hll1, hll2⟩ := hll
          go_wp2
          go_loopw [3, 6] (fun out i wr => RvJ acc l w (w.alloc (tmCells t.head (some ⟨b, o, none⟩) t.args.length c)) al cl out i wr) (fun _ i _ => l.length - (intOf i).toNat)
          case atStart => exact ⟨0, Nat.zero_le _, rfl, HOw.out, HB2.out, HL.out, HNE.out⟩
          case round =>
            clear hbw hc1 hc2
            obtain ⟨j, hj, rfl, hown, hB, hlI, hne⟩ := hrel
            have HBj := Lib.hid hB
            have hbzj := hB.size
            rw [heap_alloc_size] at hbzj
            obtain ⟨acc1, hacc1⟩ : ∃ acc1, dd acc (l.take j) = acc1 := ⟨_, rfl⟩
            rw [hacc1] at hown
            have HACC1 := Lib.hid hacc1
            obtain ⟨av, cv, rfl, hI, _⟩ := own_is hown
            have HOj := Lib.hid hown
            have HIj := Lib.hid hI
            have HLI := Lib.hid hlI
            have HNEj := Lib.hid hne
            clear hB hown hI hlI hne hacc1
            by_cases hjt : j < l.length
            · have hj0 : (0 : Int) ≤ (j : Int) := Int.natCast_nonneg _
              have hj1 : (j : Int) < (l.length : Int) := by omega
              obtain ⟨b2, o2, z, rfl, hb2, hz, hc0⟩ := HLI.out.elem hjt
              have HZ2 := Lib.hid hz
              clear hz
              go_wp2_with fail
              refine (in_any z acc1 wr.heap.size av cv wr (Nat.le_refl _) HIj.out).mono ?_
              rintro e w3 ⟨rfl, hb3⟩
              have HO3 := Lib.hid (ownsRow_later HOj.out hb3)
              have HL3 := Lib.hid ((HLI.out.below hb3).mono hb3.size)
              have HB3 := Lib.hid (HBj.out.trans (hb3.mono (by omega)))
              have hzw3 := hb3.size
              have hc3 : w3.cell? ⟨b2, o2 + j, none⟩ = some (.int .i64 z) := (hb3.cell hb2).trans hc0
              have hb23 : b2 < w3.heap.size := by omega
              have hst : dd acc (l.take (j + 1)) = ddStep acc1 z := by
                rw [List.take_add_one, HZ2.out, Option.toList_some, dd_snoc, HACC1.out]
              have HST := Lib.hid hst
              have hal : acc1.length ≤ 2000000000000 := by
                rw [← HACC1.out, ← HACC.out]
                have h1 := dd_length (T.rvs acc0 (t.args.take k)) (l.take j)
                have h2 : (T.rvs acc0 (t.args.take k)).length ≤ 1000000000000 := Nat.le_trans (HACCL.out k) hbig
                have h3 : (l.take j).length ≤ l.length := by simp; omega
                omega
              clear hb3 hst hc0 hb2 HLI HOj HIj
              by_cases hin : z ∈ acc1
              · rw [decide_eq_true hin]
                have HIN := Lib.hid (show acc1.contains z = true from by simpa using hin)
                clear hin
                go_wp2
                go_roundw
                case rel =>
                  have e1 := HST.out
                  rw [ddStep, if_pos HIN.out] at e1
                  refine ⟨j + 1, by omega, by go_num, ?_, HB3.out, HL3.out, HNEj.out⟩
                  rw [e1]
                  exact HO3.out
                case measure => simp [intOf]; omega
              · rw [decide_eq_false hin]
                have HIN := Lib.hid (show ¬ acc1.contains z = true from by simpa using hin)
                clear hin
                go_wp2_with (at_builtin; refine stopHere ?_)
                refine Lib.hid ?_
                refine wpList_append_lies _ rfl _ _ 40 rfl (w.heap.size + 1) 3 i0 (.int .i64 0) 1 8 Tryz.underlying40 hi hz0 hz1 hz2 rfl (by decide) _ acc1.length _ rfl (HO3.out.alloc _) ⟨w3.heap.size, 0, none⟩ 1 1 [.int .i64 z] (by rfl) rfl (cell_one_at _ _ _ _ rfl) (by simp [Value.oneCell']) (by omega) (by unfold maxLen; omega) (by omega) (by simp; omega) (w3.heap.size + 1) (by simp) ?_
                intro g cap w4 hown4 hgr4 hor hlt4
                have HO4 := Lib.hid hown4
                have HB4 := Lib.hid ((HB3.out.alloc (by omega) _).grown hgr4 (by simp; omega) (fun q hq => (HO3.out.lt q hq).1))
                have HL4 := Lib.hid (is_grown ((HL3.out.below ((Below.refl _ _).alloc (Nat.le_refl _) _)).mono (by simp)) hgr4 HNEj.out)
                have HOR := Lib.hid hor
                clear hown4 hgr4 hor
                go_wp2
                go_roundw
                case rel =>
                  have e1 := HST.out
                  rw [ddStep, if_neg HIN.out] at e1
                  refine ⟨j + 1, by omega, by go_num, ?_, HB4.out, HL4.out, fun q hq g' o' m' e => ?_⟩
                  · rw [e1, List.map_append, List.length_append]
                    exact HO4.out
                  · cases e
                    rcases HOR.out with h | h
                    · exact HNEj.out q ((show (Value.slice av acc1.length cv).ownBlock = some g from h).trans hq) _ _ _ rfl
                    · have : g = q := by simpa [Value.ownBlock] using hq
                      omega
                case measure => simp [intOf]; omega
            · obtain rfl : j = l.length := by omega
              go_wp2
              go_roundw
              case rel =>
                refine ⟨k + 1, by omega, by go_num, ?_, HBj.out⟩
                have hs := HSS.out
                rw [List.take_add_one, hs, Option.toList_some, T.rvs_snoc, HACC.out, HLV.out]
                have e1 := HACC1.out
                rw [List.take_length] at e1
                rw [e1]
                exact HOj.out
              case measure => simp [intOf]; omega
        · obtain rfl : k = t.args.length := by omega
          obtain ⟨av, cv, rfl, hI, hfr⟩ := own_is HO.out
          have HI := Lib.hid hI
          have HFR := Lib.hid hfr
          clear hI hfr
          go_wp2
          go_ret
          have hrv := HRV.out
          rw [List.take_length] at *
          rw [hrv]
          exact ⟨av, cv, rfl, HI.out, fun g o m e => by have := HFR.out g o m e; omega, ((Below.refl _ w).alloc (Nat.le_refl _) _).trans (HB.out.mono (by omega))⟩

end Go.Proofs.YtbdabdjpgmnejaaGreat

/- Contract of the document's Vars of rows (layer 5). -/
namespace Go.Proofs.YtbdabdjpgmnejaaGreat
set_option linter.unusedVariables false
set_option linter.unusedSimpArgs false
open Go.RowKit

theorem refVarsL_any (ts : List T) (hts : T.sizes ts ≤ 100000) (n₀ : Nat) (a : Option Addr) (c : Nat) (w : World) (hn : n₀ ≤ w.heap.size) (hA : IsArgs n₀ w ts a c) :
    Calls Tryz.prog 49 #[.slice a ts.length c] w (RvPost (T.rvs [] ts) w) := by
  have hb1 : Below w.heap.size w (w.alloc (.cells #[.int .i64 0, .slice a ts.length c] 34)) := (Below.refl _ _).alloc (Nat.le_refl _) _
  have CC := Lib.hid (refVars_any (T.node 0 ts).size (.node 0 ts) (Nat.le_refl _) (by simp only [T.size]; omega) n₀ a c (w.alloc (.cells #[.int .i64 0, .slice a ts.length c] 34)) (by simp; omega) (by simp [T.head]; decide) (hA.below (hb1.mono hn)))
  have HB := Lib.hid hb1
  clear hA hb1
  go_enter Tryz.func49, Tryz.ntmps49
  go_wp2_with fail
  refine CC.out.mono ?_
  rintro e w2 ⟨a2, c2, rfl, hI, hfr, hb⟩
  have hrv : (T.node 0 ts).rv = T.rvs [] ts := by rw [T.rv]; rfl
  rw [hrv] at hI ⊢
  have HI := Lib.hid hI
  have HF := Lib.hid (HB.out.trans (hb.mono (by simp)))
  have HFR := Lib.hid (show ∀ g o m, a2 = some ⟨g, o, m⟩ → w.heap.size ≤ g from fun g o m e => by have := hfr g o m e; simp at this; omega)
  clear hI hb hfr hrv
  go_wp2
  go_ret
  exact ⟨a2, c2, rfl, HI.out, HFR.out, HF.out⟩


end Go.Proofs.YtbdabdjpgmnejaaGreat

/- Contracts of the document's Terms, Few and Vars of clauses. -/
namespace Go.Proofs.YtbdabdjpgmnejaaGreat
set_option linter.unusedVariables false
set_option linter.unusedSimpArgs false
open Go.RowKit

/-- The literals of a row, without their addresses. -/
abbrev t3s (P : List LV) : List Lt3 := P.map LV.t3
theorem t3s_get {P : List LV} {k : Nat} {x : LV} (h : P[k]? = some x) : (t3s P)[k]? = some x.t3 := by simp [h]
theorem sidesC_snoc {P : List LV} {k : Nat} {x : LV} (h : P[k]? = some x) : sidesC (t3s (P.take (k + 1))) = sidesC (t3s (P.take k)) ++ [x.l, x.r] := by
  rw [List.take_add_one, h]
  simp [sidesC, LV.t3]
theorem sidesC_length (c : List Lt3) : (sidesC c).length = 2 * c.length := by
  induction c with
  | nil => rfl
  | cons x c ih => simp only [sidesC, List.map_cons, List.flatten_cons, List.length_append] at *; simp [ih]; omega
/-- A row of terms, whose blocks are none of the caller's business. -/
def TsPost (D : List T) (w : World) (e : Ending) (w' : World) : Prop := ∃ p c, e = .returned (.slice p D.length c) ∧ IsArgs w'.heap.size w' D p c ∧ Below w.heap.size w w'
def TmsI (P : List LV) (w : World) (ov i : Value) (wr : World) : Prop := ∃ k : Nat, k ≤ P.length ∧ i = .int .i64 k ∧ OA w.heap.size ov (sidesC (t3s (P.take k))) wr ∧ Below w.heap.size w wr
theorem Src.of_two {n₁ : Nat} {w : World} {x y : T} {e : Option Addr} {f : Nat} {e' : Option Addr} {f' : Nat} (hw : (Lit.int .i64 x.head).wf = true) (hw' : (Lit.int .i64 y.head).wf = true) (hA : IsArgs n₁ w x.args e f) (hA' : IsArgs n₁ w y.args e' f') (b : Nat)
    (h0 : w.cell? ⟨b, 0, none⟩ = some (.int .i64 x.head)) (h1 : w.cell? ⟨b, 1, none⟩ = some (.slice e x.args.length f)) (h2 : w.cell? ⟨b, 2, none⟩ = some (.int .i64 y.head)) (h3 : w.cell? ⟨b, 3, none⟩ = some (.slice e' y.args.length f')) : Src n₁ w [x, y] (some ⟨b, 0, none⟩) 2 := by
  refine ⟨(fun h => by cases h), [.int .i64 x.head, .slice e x.args.length f, .int .i64 y.head, .slice e' y.args.length f'], ⟨hw, rfl, ⟨e, f, rfl, isArgsp_lt.2 hA⟩, hw', rfl, ⟨e', f', rfl, isArgsp_lt.2 hA'⟩, trivial⟩, ?_, fun ad e' j u hj => ?_⟩
  · intro u hu; simp at hu; rcases hu with rfl | rfl | rfl | rfl <;> rfl
  · cases e'
    rw [addr_add, Nat.zero_add]
    match j, hj with
    | 0, hj => simp at hj; subst hj; exact h0
    | 1, hj => simp at hj; subst hj; exact h1
    | 2, hj => simp at hj; subst hj; exact h2
    | 3, hj => simp at hj; subst hj; exact h3
    | j + 4, hj => simp at hj

set_option maxRecDepth 100000 in
set_option maxHeartbeats 4000000 in
theorem terms10_any (P : List LV) (hl : P.length ≤ 1000000) (n₀ : Nat) (a : Option Addr) (c : Nat) (w : World) (hn : n₀ ≤ w.heap.size) (hP : IsCl n₀ w P a c) :
    Calls Tryz.prog 35 #[.slice a P.length c] w (TsPost (sidesC (t3s P)) w) := by
  have hlc : P.length ≤ c ∧ c ≤ maxLen := ⟨hP.1, hP.2.1⟩
  unfold maxLen at hlc
  obtain ⟨hl1, hl2⟩ := hlc
  have HP := Lib.hid (hP.mono hn)
  clear hP
  go_enter Tryz.func35, Tryz.ntmps35
  go_wp2
  go_loopw [3, 4] (fun ov i wr => TmsI P w ov i wr) (fun _ i _ => P.length - (intOf i).toNat)
  case atStart => exact ⟨0, Nat.zero_le _, rfl, OA.nil _ _, Below.refl _ _⟩
  case round =>
    obtain ⟨k, hk, rfl, hO, hB⟩ := hrel
    have HO := Lib.hid hO
    have HB := Lib.hid hB
    have hbz := hB.size
    clear hO hB
    by_cases hlt : k < P.length
    · obtain ⟨b, o, x, rfl, hb, hx, ⟨a0, a1, a2, a3, a4⟩, hxl⟩ := (HP.out.below HB.out).elem (i := k) hlt
      have HX := Lib.hid (And.intro hx hxl)
      have hk0 : (0 : Int) ≤ (k : Int) := Int.natCast_nonneg _
      have hk1 : (k : Int) < (P.length : Int) := by omega
      have hbw : b < wr.heap.size := by omega
      clear hx hxl a0
      go_wp2
      have hbd : Below wr.heap.size wr wr.drew := (Below.refl _ _).drew
      obtain ⟨xs, hown, hrv⟩ := HO.out
      have hln : (sidesC (t3s (P.take k))).length = 2 * k := by rw [sidesC_length]; simp; omega
      rw [hln] at hown
      have HRV := Lib.hid hrv
      have HOWN := Lib.hid hown
      have HBD := Lib.hid hbd
      have HLN := Lib.hid hln
      have hkm : 2 * k + 2 ≤ maxLen := by unfold maxLen; omega
      clear hrv hown hbd hln
      obtain ⟨i0, hi, hz0, hz1, hz2⟩ := info_parts infoTerm
      go_region_law (refine step_append_lies _ (by rfl) _ _ _ (by rfl) w.heap.size 34 i0 _ 2 32 Tryz.underlying32 hi hz0 hz1 hz2 rfl (by omega) u3 (2 * k) xs (by rfl) ((ownsRow_later HOWN.out HBD.out).alloc _) ⟨wr.drew.heap.size, 0, none⟩ 2 2 [.int .i64 x.l.head, .slice x.pa x.l.args.length x.ca, .int .i64 x.r.head, .slice x.pb x.r.args.length x.cb] (by rfl) (by rfl) (World.news_of_block (cs := #[.int .i64 x.l.head, .slice x.pa x.l.args.length x.ca, .int .i64 x.r.head, .slice x.pb x.r.args.length x.cb]) (t := 34) (fr := (0, 0)) (heap_alloc_new wr.drew _)) (by simp [Value.oneCell']) (by omega) hkm (by omega) (by simp; omega) (wr.drew.heap.size + 1) (by simp) ?_; intro g cap w8 hown8 hgrow8 hat8 hlt8)
      all_goals
        have hal : Below wr.heap.size wr (wr.drew.alloc (.cells #[.int .i64 x.l.head, .slice x.pa x.l.args.length x.ca, .int .i64 x.r.head, .slice x.pb x.r.args.length x.cb] 34)) := HBD.out.alloc HBD.out.size _
        have hg8 : Below w.heap.size wr w8 := (hal.mono hbz).trans ((Below.refl w.heap.size _).grown hgrow8 (by simp; omega) (fun q hq => (HOWN.out.lt q hq).1))
        have hxl := HX.out.2
        have HO5 := Lib.hid (show OA w.heap.size (.slice (some ⟨g, 0, none⟩) (2 * k + 2) cap) (sidesC (t3s (P.take k)) ++ [x.l, x.r]) w8 from
          ⟨xs ++ [.int .i64 x.l.head, .slice x.pa x.l.args.length x.ca, .int .i64 x.r.head, .slice x.pb x.r.args.length x.cb], by rw [List.length_append, HLN.out]; exact hown8, (RowVals.append (show RowVals (· < w.heap.size) wr [x.l, x.r] [.int .i64 x.l.head, .slice x.pa x.l.args.length x.ca, .int .i64 x.r.head, .slice x.pb x.r.args.length x.cb] from ⟨hxl.lw, rfl, ⟨_, _, rfl, isArgsp_lt.2 hxl.la⟩, hxl.rw, rfl, ⟨_, _, rfl, isArgsp_lt.2 hxl.ra⟩, trivial⟩) HRV.out).keep (fun b hb => hg8.block b hb) (fun _ x => x)⟩)
        have HB5 := Lib.hid (HB.out.trans hg8)
        clear hal hg8 hxl hown8 hgrow8 hat8 hlt8 hi hz0 hz1 hz2
        go_wp2
        go_roundw
        case rel => exact ⟨k + 1, by omega, by go_num, by rw [sidesC_snoc HX.out.1]; exact HO5.out, HB5.out⟩
        case measure => simp [intOf]; omega
    · obtain rfl : k = P.length := by omega
      have hO := HO.out
      rw [List.take_length] at hO
      obtain ⟨p, c', rfl, hR⟩ := hO.args hbz
      have HR := Lib.hid hR
      clear hR hO
      go_wp2
      go_ret
      exact ⟨p, c', rfl, HR.out, HB.out⟩

def Few10Post (P : List LV) (w : World) (e : Ending) (w' : World) : Prop := ∃ b : Bool, e = .returned (.bool b) ∧ (b = true → P.length ≤ 40 ∧ T.sizes (sidesC (t3s P)) ≤ 500) ∧ Below w.heap.size w w'

set_option maxRecDepth 100000 in
set_option maxHeartbeats 2000000 in
theorem few10_any (P : List LV) (n₀ : Nat) (a : Option Addr) (c : Nat) (w : World) (hn : n₀ ≤ w.heap.size) (hP : IsCl n₀ w P a c) :
    Calls Tryz.prog 13 #[.slice a P.length c] w (Few10Post P w) := by
  go_enter Tryz.func13, Tryz.ntmps13
  by_cases q : P.length ≤ 40
  · have q' : (P.length : Int) ≤ 40 := by omega
    have CT := Lib.hid (terms10_any P (by omega) n₀ a c w hn hP)
    clear hP
    go_wp2_with fail
    refine CT.out.mono ?_
    rintro e w2 ⟨p, c2, rfl, hA, hb⟩
    have CF := Lib.hid (few5_any (sidesC (t3s P)) w2.heap.size p c2 w2 (Nat.le_refl _) hA)
    have HB := Lib.hid hb
    clear hA hb
    go_wp2_with fail
    refine CF.out.mono ?_
    rintro e w3 ⟨b, rfl, hf, hb⟩
    have HF := Lib.hid hf
    have HB3 := Lib.hid (HB.out.trans (hb.mono HB.out.size))
    clear hf hb
    go_wp2
    go_ret
    exact ⟨b, rfl, fun h => ⟨q, HF.out h⟩, HB3.out⟩
  · have q' : decide ((P.length : Int) ≤ 40) = false := decide_eq_false (by omega)
    clear hP
    go_wp2
    go_ret
    exact ⟨false, rfl, (fun h => by cases h), Below.refl _ _⟩

set_option maxRecDepth 100000 in
set_option maxHeartbeats 2000000 in
theorem vars10_any (P : List LV) (hl : P.length ≤ 1000000) (hs : T.sizes (sidesC (t3s P)) ≤ 100000) (n₀ : Nat) (a : Option Addr) (c : Nat) (w : World) (hn : n₀ ≤ w.heap.size) (hP : IsCl n₀ w P a c) :
    Calls Tryz.prog 18 #[.slice a P.length c] w (RvPost (T.rvs [] (sidesC (t3s P))) w) := by
  have CT := Lib.hid (terms10_any P hl n₀ a c w hn hP)
  clear hP
  go_enter Tryz.func18, Tryz.ntmps18
  go_wp2_with fail
  refine CT.out.mono ?_
  rintro e w2 ⟨p, c2, rfl, hA, hb⟩
  have CF := Lib.hid (refVarsL_any (sidesC (t3s P)) hs w2.heap.size p c2 w2 (Nat.le_refl _) hA)
  have HB := Lib.hid hb
  clear hA hb
  go_wp2_with fail
  refine CF.out.mono ?_
  rintro e w3 ⟨q, m, rfl, h1, h2, h3⟩
  have HI := Lib.hid h1
  have HO := Lib.hid h2
  have HB3 := Lib.hid (HB.out.trans (h3.mono HB.out.size))
  clear h1 h2 h3
  go_wp2
  go_ret
  exact ⟨q, m, rfl, HI.out, fun g o n e => Nat.le_trans HB.out.size (HO.out g o n e), HB3.out⟩

end Go.Proofs.YtbdabdjpgmnejaaGreat

/- Rs0: split off Rsa. -/
namespace Go.Proofs.YtbdabdjpgmnejaaGreat
set_option linter.unusedVariables false
set_option linter.unusedSimpArgs false
open Go.RowKit

theorem rSame_any (x y : T) (hx : x.size ≤ 1000000000000) (hy : y.size ≤ 1000000000000) (n₀ : Nat) (a : Option Addr) (c : Nat) (a' : Option Addr) (c' : Nat) (w : World) (hn : n₀ ≤ w.heap.size) (hA : IsArgs n₀ w x.args a c) (hB : IsArgs n₀ w y.args a' c') :
    Calls Tryz.prog 76 #[tm x.head a x.args.length c, tm y.head a' y.args.length c'] w fun e w' => e = .returned (.bool (sameB x y)) ∧ Below w.heap.size w w' := by
  refine (refSame_any x y hx hy n₀ a c a' c' w hn hA hB).mono fun e w' h => ⟨?_, h.2⟩
  rw [h.1, show decide (T.cmp x y = 0) = sameB x y from by rw [Bool.eq_iff_iff, decide_eq_true_eq, T.cmp_zero, sameB_iff]]

set_option maxRecDepth 100000 in
set_option maxHeartbeats 2000000 in
theorem rSides_any (x y : LV) (hx : x.sz) (hy : y.sz) (n₀ : Nat) (w : World) (hn : n₀ ≤ w.heap.size) (hX : IsLv n₀ w x) (hY : IsLv n₀ w y) :
    Calls Tryz.prog 130 #[x.v, y.v] w fun e w' => e = .returned (.bool (sidB x.l x.r y.l y.r)) ∧ Below w.heap.size w w' := by
  have d0 := (((((Later.below (Below.refl _ w)).and (later_lv (hY.mono hn))).and (later_lv (hX.mono hn))).pushL (Below.refl _ _) x).pushL (Below.refl _ _) y)
  simp only [heap_alloc_size] at d0
  have D := Lib.hid d0
  have S1 := fun (W : World) (hX : IsLv W.heap.size W x) (hY : IsLv W.heap.size W y) => rSame_any x.l y.l hx.1 hy.1 W.heap.size x.pa x.ca y.pa y.ca W (Nat.le_refl _) hX.la hY.la
  have S2 := fun (W : World) (hX : IsLv W.heap.size W x) (hY : IsLv W.heap.size W y) => rSame_any x.r y.r hx.2 hy.2 W.heap.size x.pb x.cb y.pb y.cb W (Nat.le_refl _) hX.ra hY.ra
  have S3 := fun (W : World) (hX : IsLv W.heap.size W x) (hY : IsLv W.heap.size W y) => rSame_any x.l y.r hx.1 hy.2 W.heap.size x.pa x.ca y.pb y.cb W (Nat.le_refl _) hX.la hY.ra
  have S4 := fun (W : World) (hX : IsLv W.heap.size W x) (hY : IsLv W.heap.size W y) => rSame_any x.r y.l hx.2 hy.1 W.heap.size x.pb x.cb y.pa y.ca W (Nat.le_refl _) hX.ra hY.la
  unfold sidB
  generalize sameB x.l y.l = s1 at S1 ⊢
  generalize sameB x.r y.r = s2 at S2 ⊢
  generalize sameB x.l y.r = s3 at S3 ⊢
  generalize sameB x.r y.l = s4 at S4 ⊢
  have C1 := Lib.hid S1
  have C2 := Lib.hid S2
  have C3 := Lib.hid S3
  have C4 := Lib.hid S4
  clear S1 S2 S3 S4 d0 hX hY
  go_enter Tryz.func130, Tryz.ntmps130
  go_wp2_with fail
  generalize (w.alloc x.obj).alloc y.obj = w1 at D ⊢
  generalize hb0 : w.heap.size = b0 at D ⊢
  have HB0 := Lib.hid hb0
  clear hb0
  refine (C1.out w1 D.out.now.2.2.1 D.out.now.2.2.2.1).mono ?_
  rintro e w2 ⟨rfl, hb⟩
  have D2 := Lib.hid (D.out.mv hb)
  clear hb D C1
  obtain ⟨⟨y0, y1, y2, y3, y4⟩, ⟨x0, x1, x2, x3, x4⟩, _⟩ := D2.out.now
  cases s1 with
  | true =>
    go_wp2_with fail
    refine (C2.out w2 D2.out.now.2.2.1 D2.out.now.2.2.2.1).mono ?_
    clear y0 y1 y2 y3 y4 x0 x1 x2 x3 x4
    rintro e w3 ⟨rfl, hb⟩
    have D3 := Lib.hid (D2.out.mv hb)
    clear hb D2 C2
    cases s2 with
    | true =>
      have HQ := Lib.hid D3.out.now.2.2.2.2
      go_wp2
      go_ret
      exact ⟨rfl, by rw [HB0.out]; exact HQ.out⟩
    | false =>
      obtain ⟨⟨y0, y1, y2, y3, y4⟩, ⟨x0, x1, x2, x3, x4⟩, _⟩ := D3.out.now
      go_wp2_with fail
      refine (C3.out w3 D3.out.now.2.2.1 D3.out.now.2.2.2.1).mono ?_
      clear y0 y1 y2 y3 y4 x0 x1 x2 x3 x4
      rintro e w4 ⟨rfl, hb⟩
      have D4 := Lib.hid (D3.out.mv hb)
      clear hb D3 C3
      cases s3 with
      | false =>
        have HQ := Lib.hid D4.out.now.2.2.2.2
        go_wp2
        go_ret
        exact ⟨rfl, by rw [HB0.out]; exact HQ.out⟩
      | true =>
        obtain ⟨⟨y0, y1, y2, y3, y4⟩, ⟨x0, x1, x2, x3, x4⟩, _⟩ := D4.out.now
        go_wp2_with fail
        refine (C4.out w4 D4.out.now.2.2.1 D4.out.now.2.2.2.1).mono ?_
        clear y0 y1 y2 y3 y4 x0 x1 x2 x3 x4
        rintro e w5 ⟨rfl, hb⟩
        have HQ := Lib.hid (D4.out.mv hb).now.2.2.2.2
        clear hb D4 C4
        go_wp2
        go_ret
        exact ⟨by cases s4 <;> rfl, by rw [HB0.out]; exact HQ.out⟩
  | false =>
    go_wp2_with fail
    refine (C3.out w2 D2.out.now.2.2.1 D2.out.now.2.2.2.1).mono ?_
    clear y0 y1 y2 y3 y4 x0 x1 x2 x3 x4
    rintro e w4 ⟨rfl, hb⟩
    have D4 := Lib.hid (D2.out.mv hb)
    clear hb D2 C3
    cases s3 with
    | false =>
      have HQ := Lib.hid D4.out.now.2.2.2.2
      go_wp2
      go_ret
      exact ⟨rfl, by rw [HB0.out]; exact HQ.out⟩
    | true =>
      obtain ⟨⟨y0, y1, y2, y3, y4⟩, ⟨x0, x1, x2, x3, x4⟩, _⟩ := D4.out.now
      go_wp2_with fail
      refine (C4.out w4 D4.out.now.2.2.1 D4.out.now.2.2.2.1).mono ?_
      clear y0 y1 y2 y3 y4 x0 x1 x2 x3 x4
      rintro e w5 ⟨rfl, hb⟩
      have HQ := Lib.hid (D4.out.mv hb).now.2.2.2.2
      clear hb D4 C4
      go_wp2
      go_ret
      exact ⟨by cases s4 <;> rfl, by rw [HB0.out]; exact HQ.out⟩

set_option maxRecDepth 100000 in
set_option maxHeartbeats 2000000 in
theorem rLitSame_any (x y : LV) (hx : x.sz) (hy : y.sz) (n₀ : Nat) (w : World) (hn : n₀ ≤ w.heap.size) (hX : IsLv n₀ w x) (hY : IsLv n₀ w y) :
    Calls Tryz.prog 103 #[x.v, y.v] w fun e w' => e = .returned (.bool (samL x.n x.l x.r y.n y.l y.r)) ∧ Below w.heap.size w w' := by
  have hF : Below w.heap.size w ((w.alloc x.obj).alloc y.obj) := ((Below.refl _ w).alloc (Nat.le_refl _) _).alloc (by simp) _
  have S := rSides_any x y hx hy n₀ ((w.alloc x.obj).alloc y.obj) (by simp; omega) (hX.below (hF.mono hn)) (hY.below (hF.mono hn))
  unfold samL
  generalize sidB x.l x.r y.l y.r = s at S ⊢
  have C := Lib.hid S
  have HF := Lib.hid hF
  clear S hX hY hF
  obtain ⟨p, hp⟩ : ∃ p, (x.n == y.n) = p := ⟨_, rfl⟩
  rw [hp]
  go_enter Tryz.func103, Tryz.ntmps103
  cases p with
  | false =>
    go_wp2
    go_ret
    exact ⟨rfl, HF.out⟩
  | true =>
    go_wp2_with fail
    refine C.out.mono ?_
    rintro e w2 ⟨rfl, hb⟩
    have HB := Lib.hid (HF.out.trans (hb.mono HF.out.size))
    clear hb
    go_wp2
    go_ret
    exact ⟨by cases s <;> rfl, HB.out⟩

end Go.Proofs.YtbdabdjpgmnejaaGreat
