/- Contract of the bank's search. -/
import Derived.Test.YtkejacodofmlhaaBkK
namespace Go.Proofs.Ytkejacodofmlhaa
set_option linter.unusedVariables false
set_option linter.unusedSimpArgs false
open Go.RowKit Go.Maps

mutual
def sr (rs : List (List Int)) : T → Option Nat
  | .node h ts => match srs rs ts with
    | none => none
    | some ids => if rowOf h ts.length ids ∈ rs then some (rs.idxOf (rowOf h ts.length ids)) else none
def srs (rs : List (List Int)) : List T → Option (List Int)
  | [] => some []
  | t :: ts => match sr rs t with
    | none => none
    | some i => match srs rs ts with
      | none => none
      | some ids => some ((i : Int) :: ids)
end
theorem sr_eq (rs : List (List Int)) (t : T) : sr rs t = match srs rs t.args with
    | none => none
    | some ids => if rowOf t.head t.args.length ids ∈ rs then some (rs.idxOf (rowOf t.head t.args.length ids)) else none := by
  cases t
  rw [sr]; rfl
theorem srs_append (rs : List (List Int)) : ∀ (a b : List T), srs rs (a ++ b) = match srs rs a with
    | none => none
    | some i1 => match srs rs b with
      | none => none
      | some i2 => some (i1 ++ i2) := by
  intro a
  induction a with
  | nil => intro b; simp only [List.nil_append, srs]; rcases srs rs b with _ | i <;> rfl
  | cons t a ih =>
    intro b
    simp only [List.cons_append, srs]
    rcases sr rs t with _ | i
    · rfl
    · simp only []
      rw [ih]
      rcases srs rs a with _ | i1
      · rfl
      · simp only []
        rcases srs rs b with _ | i2 <;> rfl
theorem srs_snoc {rs : List (List Int)} {a : List T} {ids : List Int} (h : srs rs a = some ids) (t : T) : srs rs (a ++ [t]) = match sr rs t with
    | none => none
    | some i => some (ids ++ [(i : Int)]) := by
  rw [srs_append, h]
  simp only [srs]
  rcases sr rs t with _ | i <;> rfl
theorem srs_fail {rs : List (List Int)} {a : List T} (h : srs rs a = none) (b : List T) : srs rs (a ++ b) = none := by
  rw [srs_append, h]
theorem sr_lt {rs : List (List Int)} {t : T} {i : Nat} (h : sr rs t = some i) : i < rs.length := by
  rw [sr_eq] at h
  split at h
  · cases h
  · split at h
    · rename_i hin
      simp only [Option.some.injEq] at h
      rw [← h]
      exact List.idxOf_lt_length_iff.2 hin
    · cases h
theorem srs_le : ∀ {rs : List (List Int)} (ts : List T) {ids : List Int}, rs.length ≤ 4096 → srs rs ts = some ids → ids.length = ts.length ∧ ∀ z ∈ ids, 0 ≤ z ∧ z < 4096 := by
  intro rs ts
  induction ts with
  | nil => intro ids _ h; simp [srs] at h; subst h; simp
  | cons t ts ih =>
    intro ids hl h
    rw [srs] at h
    rcases h1 : sr rs t with _ | i
    · rw [h1] at h; cases h
    · rw [h1] at h
      simp only [] at h
      rcases h2 : srs rs ts with _ | is
      · rw [h2] at h; cases h
      · rw [h2] at h
        simp only [Option.some.injEq] at h
        subst h
        have := ih hl h2
        have hi := sr_lt h1
        refine ⟨by simp [this.1], fun z hz => ?_⟩
        rcases List.mem_cons.1 hz with rfl | hz
        · omega
        · exact this.2 z hz

def foundR (o : Option Nat) : Value := .tuple #[.int .i64 ((o.getD 0 : Nat) : Int), .bool o.isSome]
def SrPost (o : Option Nat) (w : World) (e : Ending) (w' : World) : Prop := e = .returned (foundR o) ∧ Below w.heap.size w w'
def SrI (rs : List (List Int)) (h : Int) (ts : List T) (w1 : World) (b6 : Nat) (i : Value) (wr : World) : Prop :=
  ∃ (k : Nat) (ids : List Int), k ≤ ts.length ∧ i = .int .i64 k ∧ srs rs (ts.take k) = some ids ∧ Below w1.heap.size w1 wr ∧ b6 < wr.heap.size ∧
    wr.heap[b6]? = some (.cells (rowVals (rowOf h ts.length ids)).toArray 109 (0, 0))

set_option maxRecDepth 100000 in
set_option maxHeartbeats 4000000 in
theorem search_any : ∀ (N : Nat) (t : T), t.size ≤ N → nar t = true → ∀ (n₀ B Tb M : Nat) (sv : Value) (rs : List (List Int)) (a : Option Addr) (c : Nat) (w : World), n₀ ≤ w.heap.size → IsK B Tb w sv M rs → (Lit.int .i64 t.head).wf = true → IsArgs n₀ w t.args a c →
    Calls Try.prog 40 #[.pointer (some ⟨Tb, 0, none⟩), tm t.head a t.args.length c] w (SrPost (sr rs t) w) := by
  intro N
  induction N with
  | zero => intro t ht; have := T.size_pos t; omega
  | succ N ih =>
    intro t htN hnar n₀ B Tb M sv rs a c w hn hG hwf hA
    have hlen : t.args.length ≤ 8 := (nar_args hnar).1
    have hcl : t.args.length ≤ c := hA.1
    have hcm : c ≤ maxLen := hA.2.1
    unfold maxLen at hcm
    obtain ⟨w1, hw1⟩ : ∃ w1, w.alloc (.cells #[.int .i64 t.head, .slice a t.args.length c] 24) = w1 := ⟨_, rfl⟩
    obtain ⟨w2, hw2⟩ : ∃ w2, w1.alloc (.cells #[.int .i64 t.head, .int .i64 (t.args.length : Nat), .int .i64 0, .int .i64 0, .int .i64 0, .int .i64 0, .int .i64 0, .int .i64 0, .int .i64 0, .int .i64 0] 109) = w2 := ⟨_, rfl⟩
    have hb1 : Below w.heap.size w w1 := by rw [← hw1]; exact (Below.refl _ _).alloc (Nat.le_refl _) _
    have hb2 : Below w1.heap.size w1 w2 := by rw [← hw2]; exact (Below.refl _ _).alloc (Nat.le_refl _) _
    have hz1 : w1.heap.size = w.heap.size + 1 := by rw [← hw1]; simp
    have hz2 : w2.heap.size = w1.heap.size + 1 := by rw [← hw2]; simp
    have q0 : w1.cell? ⟨w.heap.size, 0, none⟩ = some (.int .i64 t.head) := by rw [← hw1]; simp [go_sem]
    have q1 : w1.cell? ⟨w.heap.size, 1, none⟩ = some (.slice a t.args.length c) := by rw [← hw1]; simp [go_sem]
    have p0 := (hb2.cell (p := ⟨w.heap.size, 0, none⟩) (by simp; omega)).trans q0
    have p1 := (hb2.cell (p := ⟨w.heap.size, 1, none⟩) (by simp; omega)).trans q1
    have hbk : w2.heap[w1.heap.size]? = some (.cells (rowVals (rowOf t.head t.args.length [])).toArray 109 (0, 0)) := by rw [← hw2]; exact heap_alloc_new w1 _
    have HST := Lib.hid (show SrI rs t.head t.args w1 w1.heap.size (.int .i64 ((0 : Nat) : Int)) w2 from ⟨0, [], Nat.zero_le _, rfl, by simp [srs], hb2, by omega, hbk⟩)
    have hrs4 := hG.few
    have HG := Lib.hid hG
    have HA := Lib.hid hA
    have HB1 := Lib.hid hb1
    have HZ1 := Lib.hid hz1
    have HZ2 := Lib.hid hz2
    have HNAR := Lib.hid hnar
    have HTN := Lib.hid (show T.sizes t.args ≤ N from by have := T.size_eq t; omega)
    have HWF := Lib.hid hwf
    have hwl : w.heap.size < w1.heap.size := by omega
    have hsl : w1.heap.size < w2.heap.size := by omega
    clear hA hG hb1 hb2 hbk hz1 hz2 hnar htN hwf
    subst hw2
    go_enter Try.func40, Try.ntmps40
    go_wp2
    generalize w1.alloc (.cells #[.int .i64 t.head, .int .i64 (t.args.length : Nat), .int .i64 0, .int .i64 0, .int .i64 0, .int .i64 0, .int .i64 0, .int .i64 0, .int .i64 0, .int .i64 0] 109) = w2 at *
    clear p0 p1 q0 q1
    go_loopw [22] (fun i wr => SrI rs t.head t.args w1 w1.heap.size i wr) (fun i _ => t.args.length - (intOf i).toNat)
    case atStart => exact HST.out
    case round =>
      obtain ⟨k, ids, hk, rfl, hks, hS, hslr, hbx⟩ := hrel
      have hk8 : (k : Int) < 8 ∨ (k : Int) = 8 := by omega
      have HKS := Lib.hid hks
      have hSw : Below w.heap.size w wr := HB1.out.trans (hS.mono HB1.out.size)
      have HS := Lib.hid hS
      have HSW := Lib.hid hSw
      have HBX := Lib.hid hbx
      have hzr := hS.size
      have hidl : ids.length = k := by
        have := (srs_le (t.args.take k) hrs4 hks).1
        rw [this]; simp; omega
      have HIDL := Lib.hid hidl
      clear hks hS hSw hbx hidl HST
      by_cases hlt : k < t.args.length
      · obtain ⟨b, o, s, a', c', rfl, hbn, hs, hswf, hc1, hc2, hA'⟩ := (HA.out.below (HSW.out.mono hn)).elem (i := k) hlt
        have hk0 : (0 : Int) ≤ (k : Int) := Int.natCast_nonneg _
        have hk1 : (k : Int) < (t.args.length : Int) := by omega
        have hk2 : (k : Int) < 8 := by omega
        have hbw : b < wr.heap.size := by omega
        have hsz : s.size ≤ N := by have := T.size_lt_of_mem hs; have := HTN.out; omega
        have hsn : nar s = true := nars_get (nar_args HNAR.out).2 hs
        have CN := Lib.hid (show ∀ W, Below wr.heap.size wr W → Calls Try.prog 40 #[.pointer (some ⟨Tb, 0, none⟩), tm s.head a' s.args.length c'] W (SrPost (sr rs s) W) from fun W hW =>
          ih s hsz hsn n₀ B Tb M sv rs a' c' W (by have := hW.size; omega) (HG.out.later (HSW.out.trans (hW.mono HSW.out.size))) hswf (hA'.below (hW.mono (by omega))))
        have htk : t.args.take (k + 1) = t.args.take k ++ [s] := by
          obtain ⟨hkl, hke⟩ := List.getElem?_eq_some_iff.1 hs
          rw [List.take_succ_eq_append_getElem hkl, hke]
        have hst := srs_snoc HKS.out s
        rw [← htk] at hst
        have hbr1 : Below wr.heap.size wr (wr.alloc (.cells #[.int .i64 s.head, .slice a' s.args.length c'] 24)) := (Below.refl _ _).alloc (Nat.le_refl _) _
        have HBR1 := Lib.hid hbr1
        clear hsz hsn htk hA' hs hswf hbr1
        rcases hkp : sr rs s with _ | i
        · rw [hkp] at hst
          simp only [] at hst
          have HST := Lib.hid hst
          have HKP := Lib.hid hkp
          clear hst hkp
          go_wp2_with fail
          refine (CN.out _ HBR1.out).mono ?_
          rw [HKP.out]
          rintro e w3 ⟨rfl, hb3⟩
          have HB3 := Lib.hid hb3
          clear hb3 CN
          simp only [foundR, Option.isSome_none]
          go_wp2
          go_ret2
          have hf := srs_fail HST.out (t.args.drop (k + 1))
          rw [List.take_append_drop] at hf
          unfold SrPost
          rw [sr_eq, hf]
          exact ⟨rfl, HSW.out.trans ((HBR1.out.trans (HB3.out.mono HBR1.out.size)).mono HSW.out.size)⟩
        · rw [hkp] at hst
          simp only [] at hst
          have HST := Lib.hid hst
          have HKP := Lib.hid hkp
          clear hst hkp
          go_wp2_with fail
          refine (CN.out _ HBR1.out).mono ?_
          rw [HKP.out]
          rintro e w3 ⟨rfl, hb3⟩
          have hx3 : w3.heap[w1.heap.size]? = some (.cells (rowVals (rowOf t.head t.args.length ids)).toArray 109 (0, 0)) :=
            (hb3.block _ (by simp; omega)).trans ((HBR1.out.block _ (by omega)).trans HBX.out)
          have hrl : (rowVals (rowOf t.head t.args.length ids)).length = 10 := by have := HIDL.out; simp [rowVals, rowOf]; omega
          obtain ⟨v, hv⟩ : ∃ v, w3.cell? ⟨w1.heap.size, 2 + k, none⟩ = some v := ⟨(rowVals (rowOf t.head t.args.length ids))[2 + k]'(by omega), by simp [World.cell?, hx3]⟩
          have hfz : w3.frozen? ⟨w1.heap.size, 2 + k, none⟩ = false := by simp [World.frozen?, hx3]
          have hz3 : wr.heap.size + 1 ≤ w3.heap.size := by have := hb3.size; simpa using this
          have hsl3 : w1.heap.size < w3.heap.size := by omega
          have HB3 := Lib.hid hb3
          have HX3 := Lib.hid hx3
          have HRL := Lib.hid hrl
          clear hb3 CN hx3 hrl
          simp only [foundR, Option.getD_some, Option.isSome_some]
          go_wp2
          go_roundw
          case rel =>
            refine ⟨k + 1, ids ++ [(i : Int)], by omega, by go_num, HST.out, (HS.out.trans ((HBR1.out.trans (HB3.out.mono HBR1.out.size)).mono (by omega))).setCell (by simp) _, by simpa using hsl3, ?_⟩
            rw [heap_setCell_same HX3.out]
            have hid := HIDL.out
            have := rowOf_set (h := t.head) (n := t.args.length) (ids := ids) (by omega) (i : Int)
            rw [hid] at this
            rw [← this]
            simp
          case measure => simp [intOf]; omega
      · obtain rfl : k = t.args.length := by omega
        have hks := HKS.out
        rw [List.take_length] at hks
        have hrk : RwOk (rowOf t.head t.args.length ids) := by
          have := srs_le t.args hrs4 hks
          exact rowOf_ok (Mm.wfi_of HWF.out) hlen (by omega) this.2
        have hGr := HG.out.later HSW.out
        have hlk := fun n => (show MapK (wr.drewN n) M rs from hGr.map.kept (by simp)).look hrk
        have hkk : sr rs t = if rowOf t.head t.args.length ids ∈ rs then some (rs.idxOf (rowOf t.head t.args.length ids)) else none := by rw [sr_eq, hks]
        have hgl := hGr.lt
        have g0 : wr.cell? ⟨Tb, 0, none⟩ = some sv := by simp [World.cell?, hGr.heap]
        have g1 : wr.cell? ⟨Tb, 1, none⟩ = some (.map (some M)) := by simp [World.cell?, hGr.heap]
        have hbx := HBX.out
        generalize rowOf t.head t.args.length ids = row at *
        obtain ⟨z0, z1, z2, z3, z4, z5, z6, z7, z8, z9, rfl⟩ := ten hrk.1
        have c0 : wr.cell? ⟨w1.heap.size, 0, none⟩ = some (.int .i64 z0) := by simp [World.cell?, hbx, rowVals]
        have c1 : wr.cell? ⟨w1.heap.size, 1, none⟩ = some (.int .i64 z1) := by simp [World.cell?, hbx, rowVals]
        have c2 : wr.cell? ⟨w1.heap.size, 2, none⟩ = some (.int .i64 z2) := by simp [World.cell?, hbx, rowVals]
        have c3 : wr.cell? ⟨w1.heap.size, 3, none⟩ = some (.int .i64 z3) := by simp [World.cell?, hbx, rowVals]
        have c4 : wr.cell? ⟨w1.heap.size, 4, none⟩ = some (.int .i64 z4) := by simp [World.cell?, hbx, rowVals]
        have c5 : wr.cell? ⟨w1.heap.size, 5, none⟩ = some (.int .i64 z5) := by simp [World.cell?, hbx, rowVals]
        have c6 : wr.cell? ⟨w1.heap.size, 6, none⟩ = some (.int .i64 z6) := by simp [World.cell?, hbx, rowVals]
        have c7 : wr.cell? ⟨w1.heap.size, 7, none⟩ = some (.int .i64 z7) := by simp [World.cell?, hbx, rowVals]
        have c8 : wr.cell? ⟨w1.heap.size, 8, none⟩ = some (.int .i64 z8) := by simp [World.cell?, hbx, rowVals]
        have c9 : wr.cell? ⟨w1.heap.size, 9, none⟩ = some (.int .i64 z9) := by simp [World.cell?, hbx, rowVals]
        simp only [rowV, rowVals, List.map] at hlk
        by_cases hin : [z0, z1, z2, z3, z4, z5, z6, z7, z8, z9] ∈ rs
        · rw [if_pos hin] at hkk
          simp only [if_pos hin, decide_eq_true hin] at hlk
          have HKK := Lib.hid hkk
          clear hks hrk hkk hbx hin hGr
          generalize rs.idxOf [z0, z1, z2, z3, z4, z5, z6, z7, z8, z9] = q at *
          go_wp2
          go_quiet (fail)
          go_wp2
          go_ret2
          unfold SrPost
          rw [HKK.out]
          exact ⟨rfl, below_drewN HSW.out nq⟩
        · rw [if_neg hin] at hkk
          simp only [if_neg hin, decide_eq_false hin] at hlk
          have HKK := Lib.hid hkk
          clear hks hrk hkk hbx hin hGr
          go_wp2
          go_quiet (fail)
          go_wp2
          go_ret2
          unfold SrPost
          rw [HKK.out]
          exact ⟨rfl, below_drewN HSW.out nq⟩

end Go.Proofs.Ytkejacodofmlhaa
