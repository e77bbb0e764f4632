/- QDd: joined of RVr, Wp0. -/
import Derived.Test.YtleohdddaadbeaaGreatQDc
import Derived.Test.YtleohdddaadbeaaGreatQBf
import Derived.Deep.CutRange
import Derived.Deep.AppendLies
import Derived.Test.YtleohdddaadbeaaGreatQBe
import Derived.Test.YtleohdddaadbeaaGreatQBg
/- Contract of the reference's Vars. -/
namespace Go.Proofs.YtleohdddaadbeaaGreat
set_option linter.unusedVariables false
set_option linter.unusedSimpArgs false
open Go.RowKit

def ddStep (acc : List Int) (z : Int) : List Int := if acc.contains z then acc else acc ++ [z]
def dd (acc zs : List Int) : List Int := zs.foldl ddStep acc
theorem mem_ddStep {acc : List Int} {z y : Int} : y ∈ ddStep acc z ↔ y ∈ acc ∨ y = z := by
  unfold ddStep
  split
  · rename_i h
    have : z ∈ acc := by simpa using h
    constructor
    · exact .inl
    · rintro (h | rfl)
      · exact h
      · exact this
  · simp
theorem mem_dd {acc zs : List Int} {y : Int} : y ∈ dd acc zs ↔ y ∈ acc ∨ y ∈ zs := by
  induction zs generalizing acc with
  | nil => simp [dd]
  | cons z zs ih => rw [dd, List.foldl_cons]; rw [show zs.foldl ddStep (ddStep acc z) = dd (ddStep acc z) zs from rfl, ih, mem_ddStep]; simp [or_assoc]
theorem dd_snoc (acc zs : List Int) (z : Int) : dd acc (zs ++ [z]) = ddStep (dd acc zs) z := by simp [dd]
theorem dd_step (acc acc0 : List Int) (z : Int) : dd acc (ddStep acc0 z) = ddStep (dd acc acc0) z := by
  by_cases h : acc0.contains z
  · have h1 : ddStep acc0 z = acc0 := by rw [ddStep, if_pos h]
    have h2 : (dd acc acc0).contains z = true := by simpa using mem_dd.2 (.inr (by simpa using h))
    rw [h1, ddStep, if_pos h2]
  · have h1 : ddStep acc0 z = acc0 ++ [z] := by rw [ddStep, if_neg h]
    rw [h1, dd_snoc]
theorem dd_dd (acc acc0 zs : List Int) : dd acc (dd acc0 zs) = dd (dd acc acc0) zs := by
  induction zs generalizing acc0 with
  | nil => rfl
  | cons z zs ih =>
    show dd acc (dd (ddStep acc0 z) zs) = dd (ddStep (dd acc acc0) z) zs
    rw [ih, dd_step]
theorem dd_length (acc zs : List Int) : (dd acc zs).length ≤ acc.length + zs.length := by
  induction zs generalizing acc with
  | nil => simp [dd]
  | cons z zs ih =>
    have h1 := ih (ddStep acc z)
    have h2 : (ddStep acc z).length ≤ acc.length + 1 := by unfold ddStep; split <;> simp
    show (dd (ddStep acc z) zs).length ≤ _
    simp; omega
mutual
def T.rv : T → List Int
  | .node h ts => T.rvs (if h < 0 then [-1 - h] else []) ts
def T.rvs : List Int → List T → List Int
  | acc, [] => acc
  | acc, t :: ts => T.rvs (dd acc t.rv) ts
end
theorem T.rvs_snoc (acc : List Int) (ts : List T) (t : T) : T.rvs acc (ts ++ [t]) = dd (T.rvs acc ts) t.rv := by
  induction ts generalizing acc with
  | nil => simp [T.rvs]
  | cons x ts ih => rw [List.cons_append, T.rvs, ih, T.rvs]
theorem varStep_dd (acc : List Int) (d : Nat) (h : Int) (ts : List T) : varStep acc (d, .node h ts) = dd acc (if h < 0 then [-1 - h] else []) := by
  show (if h < 0 then (if acc.contains (-1 - h) then acc else acc ++ [-1 - h]) else acc) = _
  by_cases q : h < 0
  · rw [if_pos q, if_pos q]; rfl
  · rw [if_neg q, if_neg q]; rfl
mutual
theorem T.subs_rv (t : T) (d : Nat) (acc : List Int) : (T.subs d t).foldl varStep acc = dd acc t.rv := by
  match t with
  | .node h ts =>
    rw [T.subs, List.foldl_cons, varStep_dd, T.subss_rv ts (d + 1), T.rv]
    exact (T.rvs_dd acc _ ts).symm
theorem T.subss_rv (ts : List T) (d : Nat) (acc : List Int) : (T.subss d ts).foldl varStep acc = T.rvs acc ts := by
  match ts with
  | [] => rfl
  | t :: ts => rw [T.subss, List.foldl_append, T.subs_rv t, T.subss_rv ts, T.rvs]
theorem T.rvs_dd (acc acc0 : List Int) (ts : List T) : dd acc (T.rvs acc0 ts) = T.rvs (dd acc acc0) ts := by
  match ts with
  | [] => rfl
  | t :: ts => rw [T.rvs, T.rvs, T.rvs_dd acc _ ts, dd_dd]
end
theorem T.rv_eq (t : T) : t.rv = varsOf (T.subs 1 t) := by
  have h : dd [] t.rv = t.rv := by
    match t with
    | .node h ts =>
      rw [T.rv, T.rvs_dd]
      congr 1
      split <;> simp [dd, ddStep]
  rw [varsOf, T.subs_rv, h]
theorem T.rv_length (t : T) : t.rv.length ≤ t.size := by
  rw [T.rv_eq]
  have : ∀ (pre : List (Nat × T)) (acc : List Int), (pre.foldl varStep acc).length ≤ acc.length + pre.length := by
    intro pre
    induction pre with
    | nil => intro acc; simp
    | cons x pre ih => intro acc; rw [List.foldl_cons]; have h1 := ih (varStep acc x); have h2 := varStep_length acc x; simp; omega
  have := this (T.subs 1 t) []
  rw [T.subs_length] at this
  simpa [varsOf] using this

def RvPost (zs : List Int) (w : World) (e : Ending) (w' : World) : Prop := ∃ a c, e = .returned (.slice a zs.length c) ∧ IsIs w'.heap.size w' zs a c ∧ (∀ g o m, a = some ⟨g, o, m⟩ → w.heap.size ≤ g) ∧ Below w.heap.size w w'
theorem own_is {w : World} {base : Nat} {v : Value} {zs : List Int} (h : w.ownsRow base 3 1 v zs.length (zs.map (Value.int .i64))) : ∃ a c, v = .slice a zs.length c ∧ IsIs w.heap.size w zs a c ∧ ∀ g o m, a = some ⟨g, o, m⟩ → base ≤ g := by
  rcases h.2 with ⟨rfl, h0⟩ | ⟨g, cap, cur, rfl, hg, hh, hn, hc, r⟩
  · have : zs = [] := List.eq_nil_of_length_eq_zero h0
    subst this
    exact ⟨none, 0, rfl, ⟨by simp, by simp [maxLen], .inl rfl⟩, fun _ _ _ h => by cases h⟩
  · refine ⟨_, cap, rfl, ⟨hn, hc, .inr ⟨g, 0, rfl, (Array.getElem?_eq_some_iff.1 hh).1, fun j z hz => ?_⟩⟩, fun g' o' m' h => by cases h; exact hg⟩
    have hj : j < zs.length := (List.getElem?_eq_some_iff.1 hz).1
    rw [Nat.zero_add, h.cellAt j (by omega), List.getElem?_map, hz]
    rfl

def RvI (t : T) (acc0 : List Int) (w wL : World) (out i : Value) (wr : World) : Prop := ∃ k : Nat, k ≤ t.args.length ∧ i = .int .i64 k ∧ wr.ownsRow (w.heap.size + 1) 3 1 out (T.rvs acc0 (t.args.take k)).length ((T.rvs acc0 (t.args.take k)).map (Value.int .i64)) ∧ Below (w.heap.size + 1) wL wr
/-- A list stays where another row grows. -/
theorem is_grown {w w' : World} {zs : List Int} {a : Option Addr} {c : Nat} {row : Option Nat} (h : IsIs w.heap.size w zs a c) (hg : w.grownBy w' row) (hr : ∀ q, row = some q → ∀ g o m, a = some ⟨g, o, m⟩ → q ≠ g) : IsIs w'.heap.size w' zs a c := by
  obtain ⟨h1, h2, h3⟩ := h
  refine ⟨h1, h2, ?_⟩
  rcases h3 with h3 | ⟨b, o, rfl, hb, h3⟩
  · exact .inl h3
  · exact .inr ⟨b, o, rfl, Nat.lt_of_lt_of_le hb hg.size, fun j z hz => (World.cell?_of_block (a := ⟨b, o + j, none⟩) (hg.block b hb (fun e => hr b e.symm b o none rfl rfl))).trans (h3 j z hz)⟩
def RvJ (acc l : List Int) (w wL : World) (al : Option Addr) (cl : Nat) (out i : Value) (wr : World) : Prop := ∃ k : Nat, k ≤ l.length ∧ i = .int .i64 k ∧ wr.ownsRow (w.heap.size + 1) 3 1 out (dd acc (l.take k)).length ((dd acc (l.take k)).map (Value.int .i64)) ∧ Below (w.heap.size + 1) wL wr ∧ IsIs wr.heap.size wr l al cl ∧ (∀ q, out.ownBlock = some q → ∀ g o m, al = some ⟨g, o, m⟩ → q ≠ g)

set_option maxRecDepth 100000 in
set_option maxHeartbeats 4000000 in
theorem refVars_any : ∀ (N : Nat) (t : T), t.size ≤ N → t.size ≤ 1000000000000 → ∀ (n₀ : Nat) (a : Option Addr) (c : Nat) (w : World), n₀ ≤ w.heap.size → (Lit.int .i64 t.head).wf = true → IsArgs n₀ w t.args a c →
    Calls Tryz.prog 60 #[tm t.head a t.args.length c] w (RvPost t.rv w) := by
  intro N
  induction N with
  | zero => intro t ht; have := T.size_pos t; omega
  | succ N ih =>
    intro t ht hbig n₀ a c w hn hwf hA
    have IH := Lib.hid ih
    clear ih
    have hw := wf_low hwf
    have hlc : t.args.length ≤ c ∧ c ≤ maxLen := ⟨hA.1, hA.2.1⟩
    unfold maxLen at hlc
    obtain ⟨hl1, hl2⟩ := hlc
    have HA := Lib.hid hA
    clear hA hwf
    have HRV := Lib.hid (show t.rv = T.rvs (if t.head < 0 then [-1 - t.head] else []) t.args from by cases t; rfl)
    have HACCL := Lib.hid (show ∀ k, (T.rvs (if t.head < 0 then [-1 - t.head] else []) (t.args.take k)).length ≤ t.size from fun k => by
      have h1 := T.rv_length (.node t.head (t.args.take k))
      rw [T.rv] at h1
      refine Nat.le_trans h1 ?_
      have e1 := T.size_eq (.node t.head (t.args.take k))
      rw [T.args_node] at e1
      have e2 := T.size_eq t
      have h3 := T.sizes_append (t.args.take k) (t.args.drop k)
      rw [List.take_append_drop] at h3
      omega)
    obtain ⟨i0, hi, hz0, hz1, hz2⟩ := info_parts info3
    go_enter Tryz.func60, Tryz.ntmps60
    generalize hz : (if t.head < 0 then [-1 - t.head] else []) = acc0 at HRV HACCL
    have HZ := Lib.hid hz
    clear hz
    go_upto_if 9 with fail
    go_cut [3] from 9 (fun v3 wx => wx.ownsRow (w.heap.size + 1) 3 1 v3 acc0.length (acc0.map (Value.int .i64)) ∧ Below (w.heap.size + 1) (w.alloc (tmCells t.head a t.args.length c)) wx)
    case first =>
      by_cases hneg : t.head < 0
      · have hac := HZ.out
        rw [if_pos hneg] at hac
        subst hac
        go_wp2_with (at_builtin; refine stopHere ?_)
        refine Lib.hid ?_
        refine wpList_append_own _ rfl _ _ 79 rfl (w.heap.size + 1) 3 i0 (.int .i64 0) 1 8 Tryz.underlying79 hi hz0 hz1 hz2 rfl (by decide) _ 0 _ rfl (World.ownsRow_nil _ _ _ _) ⟨w.heap.size + 1, 0, none⟩ 1 1 [.int .i64 (-1 - t.head)] (by rfl) rfl (cell_one_at _ _ _ _ (by simp)) (by simp [Value.oneCell']) (by unfold maxLen; omega) (by omega) (by simp) ?_
        intro v' w2 hown2 hgr2 _
        have HO2 := Lib.hid hown2
        have HG2 := Lib.hid hgr2
        clear hown2 hgr2
        go_wp2
        go_meet
        exact ⟨HO2.out, (((Below.refl _ _).alloc (by simp) _).grown HG2.out (by simp) (fun q hq => by cases hq))⟩
      · have hac := HZ.out
        rw [if_neg hneg] at hac
        subst hac
        go_wp2
        go_meet
        exact ⟨World.ownsRow_nil _ _ _ _, Below.refl _ _⟩
    case rest =>
      obtain ⟨hown, hB0⟩ := hcut
      have HO0 := Lib.hid hown
      have HB0 := Lib.hid hB0
      have hz0' := hB0.size
      rw [heap_alloc_size] at hz0'
      clear hown hB0
      go_wp2
      go_loopw [3, 4, 5, 6] (fun out i _ _ wr => RvI t acc0 w (w.alloc (tmCells t.head a t.args.length c)) out i wr) (fun _ i _ _ _ => t.args.length - (intOf i).toNat)
      case atStart => exact ⟨0, Nat.zero_le _, rfl, HO0.out, HB0.out⟩
      case round =>
        obtain ⟨k, hk, rfl, hown, hB⟩ := hrel
        have HO := Lib.hid hown
        have HB := Lib.hid hB
        have hbz := hB.size
        rw [heap_alloc_size] at hbz
        have hbox : wr.cell? ⟨w.heap.size, 1, none⟩ = some (.slice a t.args.length c) := (hB.cell (p := ⟨w.heap.size, 1, none⟩) (by simp)).trans (by simp [go_sem])
        clear hown hB
        by_cases hlt : k < t.args.length
        · have hwb : Below n₀ w wr := ((Below.refl n₀ w).alloc hn _).trans (HB.out.mono (by omega))
          obtain ⟨b, o, s, a', c', rfl, hbn, hs, hswf, hc1, hc2, hA'⟩ := (HA.out.below hwb).elem (i := k) hlt
          have hsN : s.size ≤ N := by have := T.size_lt_of_mem hs; have := T.size_eq t; omega
          have hsb : s.size ≤ 1000000000000 := by have := T.size_lt_of_mem hs; have := T.size_eq t; omega
          have hk0 : (0 : Int) ≤ (k : Int) := Int.natCast_nonneg _
          have hk1 : (k : Int) < (t.args.length : Int) := by omega
          have hbw : b < wr.heap.size := by omega
          have HSS := Lib.hid hs
          have CALL := Lib.hid (IH.out s hsN hsb n₀ a' c' wr (by omega) hswf hA')
          clear hs hA' hwb hswf
          go_wp2_with fail
          refine CALL.out.mono ?_
          rintro e w2 ⟨al, cl, rfl, hL, hfr, hb2⟩
          obtain ⟨l, hl⟩ : ∃ l, s.rv = l := ⟨_, rfl⟩
          rw [hl] at hL ⊢
          have hlen : l.length ≤ 1000000000000 := by rw [← hl]; exact Nat.le_trans (T.rv_length s) hsb
          have HLV := Lib.hid hl
          have HL := Lib.hid hL
          have HNE := Lib.hid (show ∀ q, Value.ownBlock u3 = some q → ∀ g o m, al = some ⟨g, o, m⟩ → q ≠ g from fun q hq g o m e => by have h1 := (HO.out.lt q hq).2; have h2 := hfr g o m e; omega)
          have HOw := Lib.hid (ownsRow_later HO.out hb2)
          have HB2 := Lib.hid (HB.out.trans (hb2.mono (by omega)))
          have hzw2 := hb2.size
          obtain ⟨acc, hacc⟩ : ∃ acc, T.rvs acc0 (t.args.take k) = acc := ⟨_, rfl⟩
          rw [hacc] at HOw
          have HACC := Lib.hid hacc
          clear hl hL hb2 hacc CALL hfr
          have hll : l.length ≤ cl ∧ cl ≤ maxLen := ⟨HL.out.1, HL.out.2.1⟩
          unfold maxLen at hll
          obtain ⟨hll1, hll2⟩ := hll
          go_wp2
          go_loopw [3, 6] (fun out i wr => RvJ acc l w (w.alloc (tmCells t.head (some ⟨b, o, none⟩) t.args.length c)) al cl out i wr) (fun _ i _ => l.length - (intOf i).toNat)
          case atStart => exact ⟨0, Nat.zero_le _, rfl, HOw.out, HB2.out, HL.out, HNE.out⟩
          case round =>
            clear hbw hc1 hc2
            obtain ⟨j, hj, rfl, hown, hB, hlI, hne⟩ := hrel
            have HBj := Lib.hid hB
            have hbzj := hB.size
            rw [heap_alloc_size] at hbzj
            obtain ⟨acc1, hacc1⟩ : ∃ acc1, dd acc (l.take j) = acc1 := ⟨_, rfl⟩
            rw [hacc1] at hown
            have HACC1 := Lib.hid hacc1
            obtain ⟨av, cv, rfl, hI, _⟩ := own_is hown
            have HOj := Lib.hid hown
            have HIj := Lib.hid hI
            have HLI := Lib.hid hlI
            have HNEj := Lib.hid hne
            clear hB hown hI hlI hne hacc1
            by_cases hjt : j < l.length
            · have hj0 : (0 : Int) ≤ (j : Int) := Int.natCast_nonneg _
              have hj1 : (j : Int) < (l.length : Int) := by omega
              obtain ⟨b2, o2, z, rfl, hb2, hz, hc0⟩ := HLI.out.elem hjt
              have HZ2 := Lib.hid hz
              clear hz
              go_wp2_with fail
              refine (in_any z acc1 wr.heap.size av cv wr (Nat.le_refl _) HIj.out).mono ?_
              rintro e w3 ⟨rfl, hb3⟩
              have HO3 := Lib.hid (ownsRow_later HOj.out hb3)
              have HL3 := Lib.hid ((HLI.out.below hb3).mono hb3.size)
              have HB3 := Lib.hid (HBj.out.trans (hb3.mono (by omega)))
              have hzw3 := hb3.size
              have hc3 : w3.cell? ⟨b2, o2 + j, none⟩ = some (.int .i64 z) := (hb3.cell hb2).trans hc0
              have hb23 : b2 < w3.heap.size := by omega
              have hst : dd acc (l.take (j + 1)) = ddStep acc1 z := by
                rw [List.take_add_one, HZ2.out, Option.toList_some, dd_snoc, HACC1.out]
              have HST := Lib.hid hst
              have hal : acc1.length ≤ 2000000000000 := by
                rw [← HACC1.out, ← HACC.out]
                have h1 := dd_length (T.rvs acc0 (t.args.take k)) (l.take j)
                have h2 : (T.rvs acc0 (t.args.take k)).length ≤ 1000000000000 := Nat.le_trans (HACCL.out k) hbig
                have h3 : (l.take j).length ≤ l.length := by simp; omega
                omega
              clear hb3 hst hc0 hb2 HLI HOj HIj
              by_cases hin : z ∈ acc1
              · rw [decide_eq_true hin]
                have HIN := Lib.hid (show acc1.contains z = true from by simpa using hin)
                clear hin
                go_wp2
                go_roundw
                case rel =>
                  have e1 := HST.out
                  rw [ddStep, if_pos HIN.out] at e1
                  refine ⟨j + 1, by omega, by go_num, ?_, HB3.out, HL3.out, HNEj.out⟩
                  rw [e1]
                  exact HO3.out
                case measure => simp [intOf]; omega
              · rw [decide_eq_false hin]
                have HIN := Lib.hid (show ¬ acc1.contains z = true from by simpa using hin)
                clear hin
                go_wp2_with (at_builtin; refine stopHere ?_)
                refine Lib.hid ?_
                refine wpList_append_lies _ rfl _ _ 79 rfl (w.heap.size + 1) 3 i0 (.int .i64 0) 1 8 Tryz.underlying79 hi hz0 hz1 hz2 rfl (by decide) _ acc1.length _ rfl (HO3.out.alloc _) ⟨w3.heap.size, 0, none⟩ 1 1 [.int .i64 z] (by rfl) rfl (cell_one_at _ _ _ _ rfl) (by simp [Value.oneCell']) (by omega) (by unfold maxLen; omega) (by omega) (by simp; omega) (w3.heap.size + 1) (by simp) ?_
                intro g cap w4 hown4 hgr4 hor hlt4
                have HO4 := Lib.hid hown4
                have HB4 := Lib.hid ((HB3.out.alloc (by omega) _).grown hgr4 (by simp; omega) (fun q hq => (HO3.out.lt q hq).1))
                have HL4 := Lib.hid (is_grown ((HL3.out.below ((Below.refl _ _).alloc (Nat.le_refl _) _)).mono (by simp)) hgr4 HNEj.out)
                have HOR := Lib.hid hor
                clear hown4 hgr4 hor
                go_wp2
                go_roundw
                case rel =>
                  have e1 := HST.out
                  rw [ddStep, if_neg HIN.out] at e1
                  refine ⟨j + 1, by omega, by go_num, ?_, HB4.out, HL4.out, fun q hq g' o' m' e => ?_⟩
                  · rw [e1, List.map_append, List.length_append]
                    exact HO4.out
                  · cases e
                    rcases HOR.out with h | h
                    · exact HNEj.out q ((show (Value.slice av acc1.length cv).ownBlock = some g from h).trans hq) _ _ _ rfl
                    · have : g = q := by simpa [Value.ownBlock] using hq
                      omega
                case measure => simp [intOf]; omega
            · obtain rfl : j = l.length := by omega
              go_wp2
              go_roundw
              case rel =>
                refine ⟨k + 1, by omega, by go_num, ?_, HBj.out⟩
                have hs := HSS.out
                rw [List.take_add_one, hs, Option.toList_some, T.rvs_snoc, HACC.out, HLV.out]
                have e1 := HACC1.out
                rw [List.take_length] at e1
                rw [e1]
                exact HOj.out
              case measure => simp [intOf]; omega
        · obtain rfl : k = t.args.length := by omega
          obtain ⟨av, cv, rfl, hI, hfr⟩ := own_is HO.out
          have HI := Lib.hid hI
          have HFR := Lib.hid hfr
          clear hI hfr
          go_wp2
          go_ret
          have hrv := HRV.out
          rw [List.take_length] at *
          rw [hrv]
          exact ⟨av, cv, rfl, HI.out, fun g o m e => by have := HFR.out g o m e; omega, ((Below.refl _ w).alloc (Nat.le_refl _) _).trans (HB.out.mono (by omega))⟩

end Go.Proofs.YtleohdddaadbeaaGreat

/- Wp0: split off Wp1: variables of good terms are low. -/
namespace Go.Proofs.YtleohdddaadbeaaGreat
set_option linter.unusedVariables false
set_option linter.unusedSimpArgs false
open Go.RowKit

theorem vars_low {t : T} (hb : bad (T.subs 1 t) = false) : ∀ h ∈ t.hds, h < 0 → -1 - h ≤ 255 := by
  have aux : ∀ (N : Nat) (t : T), t.size ≤ N → bad (T.subs 1 t) = false → ∀ h ∈ t.hds, h < 0 → -1 - h ≤ 255 := by
    intro N
    induction N with
    | zero => intro t ht; have := T.size_pos t; omega
    | succ N ih =>
      intro t ht hb h hm hn
      rw [T.hds_eq] at hm
      rcases List.mem_cons.1 hm with rfl | hm
      · have := good_head hb
        simp [okB, hn] at this
        omega
      · have : ∃ s ∈ t.args, h ∈ s.hds := by
          clear ht ih hb
          generalize t.args = ts at hm
          induction ts with
          | nil => simp [T.hdsL] at hm
          | cons s ts ih2 =>
            rcases List.mem_append.1 hm with hm | hm
            · exact ⟨s, List.mem_cons_self .., hm⟩
            · obtain ⟨x, hx, hy⟩ := ih2 hm
              exact ⟨x, List.mem_cons_of_mem _ hx, hy⟩
        obtain ⟨s, hs, hsm⟩ := this
        obtain ⟨k, hk⟩ := List.getElem?_of_mem hs
        exact ih s (by have := size_mem hs; have := T.size_eq t; omega) (good_arg hb hk) h hsm hn
  exact aux t.size t (Nat.le_refl _) hb


end Go.Proofs.YtleohdddaadbeaaGreat
