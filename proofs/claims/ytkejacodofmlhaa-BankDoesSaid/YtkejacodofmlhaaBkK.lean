/- Contract of the bank's keep. -/
import Derived.Test.YtkejacodofmlhaaBkA
import Derived.Test.YtkejacodofmlhaaLeaf
namespace Go.Proofs.Ytkejacodofmlhaa
set_option linter.unusedVariables false
set_option linter.unusedSimpArgs false
open Go.RowKit Go.Maps

/-- The row of a head and numbers. -/
def rowOf (h : Int) (n : Nat) (ids : List Int) : List Int := h :: (n : Int) :: (ids ++ List.replicate (8 - ids.length) 0)

mutual
def kp (rs : List (List Int)) : T → List (List Int) × Option Nat
  | .node h ts => match kps rs ts with
    | (rs', none) => (rs', none)
    | (rs', some ids) => addR rs' (rowOf h ts.length ids)
def kps (rs : List (List Int)) : List T → List (List Int) × Option (List Int)
  | [] => (rs, some [])
  | t :: ts => match kp rs t with
    | (r1, none) => (r1, none)
    | (r1, some i) => match kps r1 ts with
      | (r2, none) => (r2, none)
      | (r2, some ids) => (r2, some ((i : Int) :: ids))
end
mutual
def nar : T → Bool
  | .node _ ts => decide (ts.length ≤ 8) && nars ts
def nars : List T → Bool
  | [] => true
  | t :: ts => nar t && nars ts
end
theorem nar_args {t : T} (h : nar t = true) : t.args.length ≤ 8 ∧ nars t.args = true := by
  cases t
  simpa [nar, T.args] using h
theorem nars_get {ts : List T} (h : nars ts = true) {i : Nat} {t : T} (hi : ts[i]? = some t) : nar t = true := by
  induction ts generalizing i with
  | nil => simp at hi
  | cons s ts ih =>
    simp only [nars, Bool.and_eq_true] at h
    cases i with
    | zero => simp at hi; subst hi; exact h.1
    | succ i => exact ih h.2 (by simpa using hi)
theorem kp_eq (rs : List (List Int)) (t : T) : kp rs t = match kps rs t.args with
    | (rs', none) => (rs', none)
    | (rs', some ids) => addR rs' (rowOf t.head t.args.length ids) := by
  cases t
  rw [kp]; rfl
theorem kps_append (rs : List (List Int)) : ∀ (a b : List T), kps rs (a ++ b) = match kps rs a with
    | (r, none) => (r, none)
    | (r, some i1) => match kps r b with
      | (r2, none) => (r2, none)
      | (r2, some i2) => (r2, some (i1 ++ i2)) := by
  intro a
  induction a generalizing rs with
  | nil => intro b; simp only [List.nil_append, kps]; rcases kps rs b with ⟨r, _ | i⟩ <;> rfl
  | cons t a ih =>
    intro b
    simp only [List.cons_append, kps]
    rcases kp rs t with ⟨r1, _ | i⟩
    · rfl
    · simp only []
      rw [ih]
      rcases kps r1 a with ⟨r2, _ | i1⟩
      · rfl
      · simp only []
        rcases kps r2 b with ⟨r3, _ | i2⟩ <;> rfl
theorem kps_snoc {rs r : List (List Int)} {a : List T} {ids : List Int} (h : kps rs a = (r, some ids)) (t : T) : kps rs (a ++ [t]) = match kp r t with
    | (r1, none) => (r1, none)
    | (r1, some i) => (r1, some (ids ++ [(i : Int)])) := by
  rw [kps_append, h]
  simp only [kps]
  rcases kp r t with ⟨r1, _ | i⟩ <;> rfl
theorem kps_fail {rs r : List (List Int)} {a : List T} (h : kps rs a = (r, none)) (b : List T) : kps rs (a ++ b) = (r, none) := by
  rw [kps_append, h]

theorem addR_le {rs : List (List Int)} (h : rs.length ≤ 4096) (r : List Int) : (addR rs r).1.length ≤ 4096 ∧ ∀ i, (addR rs r).2 = some i → i < 4096 := by
  unfold addR
  split
  · rename_i hin
    refine ⟨h, fun i hi => ?_⟩
    simp at hi
    have := List.idxOf_lt_length_iff.2 hin
    omega
  · split
    · exact ⟨h, by simp⟩
    · refine ⟨by simp; omega, fun i hi => by simp at hi; omega⟩
mutual
theorem kp_le : (t : T) → ∀ {rs : List (List Int)}, rs.length ≤ 4096 → (kp rs t).1.length ≤ 4096 ∧ ∀ i, (kp rs t).2 = some i → i < 4096
  | .node h ts, rs, hl => by
    have := kps_le ts hl
    rw [kp]
    rcases hk : kps rs ts with ⟨r, _ | ids⟩
    · rw [hk] at this
      exact ⟨this.1, by simp⟩
    · rw [hk] at this
      exact addR_le this.1 _
theorem kps_le : (ts : List T) → ∀ {rs : List (List Int)}, rs.length ≤ 4096 → (kps rs ts).1.length ≤ 4096 ∧ ∀ ids, (kps rs ts).2 = some ids → ids.length = ts.length ∧ ∀ z ∈ ids, 0 ≤ z ∧ z < 4096
  | [], rs, hl => by rw [kps]; exact ⟨hl, by simp⟩
  | t :: ts, rs, hl => by
    have h1 := kp_le t hl
    rw [kps]
    rcases hk : kp rs t with ⟨r1, _ | i⟩
    · rw [hk] at h1
      exact ⟨h1.1, by simp⟩
    · rw [hk] at h1
      have h2 := kps_le ts h1.1
      simp only at h2 ⊢
      rcases hk2 : kps r1 ts with ⟨r2, _ | ids⟩
      · rw [hk2] at h2
        exact ⟨h2.1, by simp⟩
      · rw [hk2] at h2
        refine ⟨h2.1, fun ids' e => ?_⟩
        simp only [Option.some.injEq] at e
        subst e
        have := h2.2 ids rfl
        refine ⟨by simp [this.1], fun z hz => ?_⟩
        rcases List.mem_cons.1 hz with rfl | hz
        · have := h1.2 i rfl; omega
        · exact this.2 z hz
end

theorem rowOf_ok {h : Int} (hh : Mm.wfi h) {n : Nat} (hn : n ≤ 8) {ids : List Int} (hl : ids.length ≤ 8) (hz : ∀ z ∈ ids, 0 ≤ z ∧ z < 4096) : RwOk (rowOf h n ids) := by
  refine ⟨by simp [rowOf]; omega, fun z hm => ?_⟩
  simp only [rowOf, List.mem_cons, List.mem_append, List.mem_replicate] at hm
  rcases hm with rfl | rfl | hm | hm
  · exact hh
  · unfold Mm.wfi; omega
  · have := hz z hm; unfold Mm.wfi; omega
  · rw [hm.2]; unfold Mm.wfi; omega
theorem rowOf_set {h : Int} {n : Nat} {ids : List Int} (hl : ids.length < 8) (z : Int) : (rowVals (rowOf h n ids)).set (2 + ids.length) (.int .i64 z) = rowVals (rowOf h n (ids ++ [z])) := by
  unfold rowVals rowOf
  rw [← List.map_set, show 2 + ids.length = (ids.length + 1) + 1 from by omega, List.set_cons_succ, List.set_cons_succ, List.set_append, if_neg (by omega), Nat.sub_self]
  rw [show 8 - ids.length = (8 - (ids ++ [z]).length) + 1 from by simp; omega, List.replicate_succ, List.set_cons_zero]
  simp

def Away (ok : Nat → Prop) (Tb : Nat) (sv : Value) (M : Nat) (w : World) : Prop := ∀ b, ok b → b < w.heap.size ∧ ¬ Own3 Tb sv M b
theorem Away.step {ok : Nat → Prop} {Tb M : Nat} {sv sv' : Value} {w w' : World} (h : Away ok Tb sv M w) (k : KStep Tb M sv w sv' w') : Away ok Tb sv' M w' := fun b hb =>
  ⟨Nat.lt_of_lt_of_le (h b hb).1 k.size, fun e => (h b hb).2 (k.own b (h b hb).1 e)⟩
theorem Away.args {ok : Nat → Prop} {Tb M : Nat} {sv sv' : Value} {w w' : World} (h : Away ok Tb sv M w) (k : KStep Tb M sv w sv' w') {ts : List T} {a : Option Addr} {c : Nat} (hA : IsArgsp ok w ts a c) : IsArgsp ok w' ts a c :=
  hA.keep (fun b hb => k.block b (h b hb).1 (h b hb).2) (fun _ hb => hb)

def KpI (B Tb M : Nat) (sv : Value) (rs : List (List Int)) (h : Int) (ts : List T) (w2 : World) (b6 : Nat) (i : Value) (wr : World) : Prop :=
  ∃ (k : Nat) (sv' : Value) (r : List (List Int)) (ids : List Int), k ≤ ts.length ∧ i = .int .i64 k ∧ kps rs (ts.take k) = (r, some ids) ∧ IsK B Tb wr sv' M r ∧ KStep Tb M sv w2 sv' wr ∧ ¬ Own3 Tb sv' M b6 ∧ b6 < wr.heap.size ∧
    wr.heap[b6]? = some (.cells (rowVals (rowOf h ts.length ids)).toArray 109 (0, 0))

set_option maxRecDepth 100000 in
set_option maxHeartbeats 4000000 in
theorem keep_any : ∀ (N : Nat) (t : T), t.size ≤ N → nar t = true → ∀ (ok : Nat → Prop) (B Tb M : Nat) (sv : Value) (rs : List (List Int)) (a : Option Addr) (c : Nat) (w : World), B ≤ w.heap.size → IsK B Tb w sv M rs → Away ok Tb sv M w → (Lit.int .i64 t.head).wf = true → IsArgsp ok w t.args a c →
    Calls Try.prog 37 #[.pointer (some ⟨Tb, 0, none⟩), tm t.head a t.args.length c] w (KPost B Tb M sv (kp rs t) w) := by
  intro N
  induction N with
  | zero => intro t ht; have := T.size_pos t; omega
  | succ N ih =>
    intro t htN hnar ok B Tb M sv rs a c w hB hG hAw hwf hA
    have hlen : t.args.length ≤ 8 := (nar_args hnar).1
    have hcl : t.args.length ≤ c := hA.1
    have hcm : c ≤ maxLen := hA.2.1
    unfold maxLen at hcm
    obtain ⟨w1, hw1⟩ : ∃ w1, w.alloc (.cells #[.int .i64 t.head, .slice a t.args.length c] 24) = w1 := ⟨_, rfl⟩
    obtain ⟨w2, hw2⟩ : ∃ w2, w1.alloc (.cells #[.int .i64 t.head, .int .i64 (t.args.length : Nat), .int .i64 0, .int .i64 0, .int .i64 0, .int .i64 0, .int .i64 0, .int .i64 0, .int .i64 0, .int .i64 0] 109) = w2 := ⟨_, rfl⟩
    have hb1 : Below w.heap.size w w1 := by rw [← hw1]; exact (Below.refl _ _).alloc (Nat.le_refl _) _
    have hb2 : Below w1.heap.size w1 w2 := by rw [← hw2]; exact (Below.refl _ _).alloc (Nat.le_refl _) _
    have hz1 : w1.heap.size = w.heap.size + 1 := by rw [← hw1]; simp
    have hz2 : w2.heap.size = w1.heap.size + 1 := by rw [← hw2]; simp
    have hb12 : Below w.heap.size w w2 := hb1.trans (hb2.mono hb1.size)
    have q0 : w1.cell? ⟨w.heap.size, 0, none⟩ = some (.int .i64 t.head) := by rw [← hw1]; simp [go_sem]
    have q1 : w1.cell? ⟨w.heap.size, 1, none⟩ = some (.slice a t.args.length c) := by rw [← hw1]; simp [go_sem]
    have p0 := (hb2.cell (p := ⟨w.heap.size, 0, none⟩) (by simp; omega)).trans q0
    have p1 := (hb2.cell (p := ⟨w.heap.size, 1, none⟩) (by simp; omega)).trans q1
    have hbk : w2.heap[w1.heap.size]? = some (.cells (rowVals (rowOf t.head t.args.length [])).toArray 109 (0, 0)) := by rw [← hw2]; exact heap_alloc_new w1 _
    have HST := Lib.hid (show KpI B Tb M sv rs t.head t.args w1 w1.heap.size (.int .i64 ((0 : Nat) : Int)) w2 from ⟨0, sv, rs, [], Nat.zero_le _, rfl, by simp [kps], hG.later hb12, KStep.later hb2, fun e => by have := hG.own_lt e; omega, by omega, hbk⟩)
    have HS2 := Lib.hid (KStep.later (Tb := Tb) (M := M) (sv := sv) hb1)
    have hrs4 := hG.few
    have HA := Lib.hid (hAw.args HS2.out hA)
    have HAW := Lib.hid (hAw.step HS2.out)
    have HZ1 := Lib.hid hz1
    have HZ2 := Lib.hid hz2
    have HNAR := Lib.hid hnar
    have HTN := Lib.hid (show T.sizes t.args ≤ N from by have := T.size_eq t; omega)
    have HWF := Lib.hid hwf
    have hB1 : B ≤ w1.heap.size := by omega
    have hwl : w.heap.size < w1.heap.size := by omega
    have hsl : w1.heap.size < w2.heap.size := by omega
    clear hA hG hAw hb1 hb2 hb12 hbk hz1 hz2 hnar htN hwf
    subst hw2
    go_enter Try.func37, Try.ntmps37
    go_wp2
    generalize w1.alloc (.cells #[.int .i64 t.head, .int .i64 (t.args.length : Nat), .int .i64 0, .int .i64 0, .int .i64 0, .int .i64 0, .int .i64 0, .int .i64 0, .int .i64 0, .int .i64 0] 109) = w2 at *
    clear p0 p1 q0 q1
    go_loopw [20] (fun i wr => KpI B Tb M sv rs t.head t.args w1 w1.heap.size i wr) (fun i _ => t.args.length - (intOf i).toNat)
    case atStart => exact HST.out
    case round =>
      obtain ⟨k, sv', r, ids, hk, rfl, hks, hI, hS, hno, hslr, hbx⟩ := hrel
      have HNO := Lib.hid hno
      have hk8 : (k : Int) < 8 ∨ (k : Int) = 8 := by omega
      have HKS := Lib.hid hks
      have HI := Lib.hid hI
      have HS := Lib.hid hS
      have HBX := Lib.hid hbx
      have hzr := hS.size
      have hidl : ids.length = k := by
        have := (kps_le (t.args.take k) hrs4).2 ids (by rw [hks])
        rw [this.1]; simp; omega
      have HIDL := Lib.hid hidl
      clear hks hI hS hno hbx hidl HST
      by_cases hlt : k < t.args.length
      · obtain ⟨b, o, s, a', c', rfl, hbo, hs, hswf, hc1, hc2, hA'⟩ := (HAW.out.args HS.out HA.out).elem (i := k) hlt
        have hk0 : (0 : Int) ≤ (k : Int) := Int.natCast_nonneg _
        have hk1 : (k : Int) < (t.args.length : Int) := by omega
        have hk2 : (k : Int) < 8 := by omega
        have hbw : b < wr.heap.size := ((HAW.out.step HS.out) b hbo).1
        have hsz : s.size ≤ N := by have := T.size_lt_of_mem hs; have := HTN.out; omega
        have hsn : nar s = true := nars_get (nar_args HNAR.out).2 hs
        have hBr : B ≤ wr.heap.size := by have := HZ2.out; omega
        have CN := Lib.hid (show ∀ W, Below wr.heap.size wr W → Calls Try.prog 37 #[.pointer (some ⟨Tb, 0, none⟩), tm s.head a' s.args.length c'] W (KPost B Tb M sv' (kp r s) W) from fun W hW =>
          ih s hsz hsn ok B Tb M sv' r a' c' W (Nat.le_trans hBr hW.size) (HI.out.later hW) ((HAW.out.step HS.out).step (KStep.later hW)) hswf ((HAW.out.step HS.out).args (KStep.later hW) hA'))
        have htk : t.args.take (k + 1) = t.args.take k ++ [s] := by
          obtain ⟨hkl, hke⟩ := List.getElem?_eq_some_iff.1 hs
          rw [List.take_succ_eq_append_getElem hkl, hke]
        have hst := kps_snoc HKS.out s
        rw [← htk] at hst
        have hbr1 : Below wr.heap.size wr (wr.alloc (.cells #[.int .i64 s.head, .slice a' s.args.length c'] 24)) := (Below.refl _ _).alloc (Nat.le_refl _) _
        have HBR1 := Lib.hid hbr1
        clear hsz hsn htk hA' hs hswf hbr1
        rcases hkp : kp r s with ⟨r3, _ | i⟩
        · rw [hkp] at hst
          simp only [] at hst
          have HST := Lib.hid hst
          have HKP := Lib.hid hkp
          clear hst hkp
          go_wp2_with fail
          refine (CN.out _ HBR1.out).mono ?_
          rw [HKP.out]
          rintro e w3 ⟨rfl, sv3, hI3, hS3⟩
          have HI3 := Lib.hid hI3
          have HS3 := Lib.hid hS3
          clear hI3 hS3 CN
          simp only [numR]
          go_wp2
          go_ret2
          have hf := kps_fail HST.out (t.args.drop (k + 1))
          rw [List.take_append_drop] at hf
          unfold KPost
          rw [kp_eq, hf]
          exact ⟨rfl, sv3, HI3.out, HS2.out.trans (HS.out.trans ((KStep.later HBR1.out).trans HS3.out))⟩
        · rw [hkp] at hst
          simp only [] at hst
          have HST := Lib.hid hst
          have HKP := Lib.hid hkp
          clear hst hkp
          go_wp2_with fail
          refine (CN.out _ HBR1.out).mono ?_
          rw [HKP.out]
          rintro e w3 ⟨rfl, sv3, hI3, hS3⟩
          have hno3 : ¬ Own3 Tb sv' M w1.heap.size := HNO.out
          have hx3 : w3.heap[w1.heap.size]? = some (.cells (rowVals (rowOf t.head t.args.length ids)).toArray 109 (0, 0)) :=
            (hS3.block _ (by simp; omega) hno3).trans ((HBR1.out.block _ (by omega)).trans HBX.out)
          have hrl : (rowVals (rowOf t.head t.args.length ids)).length = 10 := by have := HIDL.out; simp [rowVals, rowOf]; omega
          obtain ⟨v, hv⟩ : ∃ v, w3.cell? ⟨w1.heap.size, 2 + k, none⟩ = some v := ⟨(rowVals (rowOf t.head t.args.length ids))[2 + k]'(by omega), by simp [World.cell?, hx3]⟩
          have hfz : w3.frozen? ⟨w1.heap.size, 2 + k, none⟩ = false := by simp [World.frozen?, hx3]
          have hz3 : wr.heap.size + 1 ≤ w3.heap.size := by have := hS3.size; simpa using this
          have hsl3 : w1.heap.size < w3.heap.size := by omega
          have HI3 := Lib.hid hI3
          have HS3 := Lib.hid hS3
          have HX3 := Lib.hid hx3
          have HRL := Lib.hid hrl
          have HNO3 := Lib.hid (show ¬ Own3 Tb sv3 M w1.heap.size from fun e => hno3 (hS3.own _ (by simp; omega) e))
          clear hI3 hS3 CN hx3 hrl hno3
          simp only [numR, Option.getD_some, Option.isSome_some, if_true]
          go_wp2
          go_roundw
          case rel =>
            refine ⟨k + 1, sv3, r3, ids ++ [(i : Int)], by omega, by go_num, HST.out, HI3.out.kept (fun j hj => Below.heap_setCell _ _ _ _ (fun e => HNO3.out (by rw [e] at hj; exact hj))), ?_, HNO3.out, by simpa using hsl3, ?_⟩
            · have h1 := HS.out.trans ((KStep.later HBR1.out).trans HS3.out)
              refine ⟨h1.os, h1.tape, h1.output, by simpa using h1.size, fun j hj hn => (Below.heap_setCell _ _ _ _ (by show j ≠ w1.heap.size; omega)).trans (h1.block j hj hn), h1.own⟩
            · rw [heap_setCell_same HX3.out]
              have hid := HIDL.out
              have := rowOf_set (h := t.head) (n := t.args.length) (ids := ids) (by omega) (i : Int)
              rw [hid] at this
              rw [← this]
              simp
          case measure => simp [intOf]; omega
      · obtain rfl : k = t.args.length := by omega
        have hks := HKS.out
        rw [List.take_length] at hks
        have hrk : RwOk (rowOf t.head t.args.length ids) := by
          have := (kps_le t.args hrs4).2 ids (by rw [hks])
          exact rowOf_ok (Mm.wfi_of HWF.out) hlen (by omega) this.2
        have CN := Lib.hid (add_any r _ hrk B Tb M sv' wr (by have := HZ2.out; omega) HI.out)
        have hkk : kp rs t = addR r (rowOf t.head t.args.length ids) := by rw [kp_eq, hks]
        have HKK := Lib.hid hkk
        have hbx := HBX.out
        generalize rowOf t.head t.args.length ids = row at *
        obtain ⟨z0, z1, z2, z3, z4, z5, z6, z7, z8, z9, rfl⟩ := ten hrk.1
        have c0 : wr.cell? ⟨w1.heap.size, 0, none⟩ = some (.int .i64 z0) := by simp [World.cell?, hbx, rowVals]
        have c1 : wr.cell? ⟨w1.heap.size, 1, none⟩ = some (.int .i64 z1) := by simp [World.cell?, hbx, rowVals]
        have c2 : wr.cell? ⟨w1.heap.size, 2, none⟩ = some (.int .i64 z2) := by simp [World.cell?, hbx, rowVals]
        have c3 : wr.cell? ⟨w1.heap.size, 3, none⟩ = some (.int .i64 z3) := by simp [World.cell?, hbx, rowVals]
        have c4 : wr.cell? ⟨w1.heap.size, 4, none⟩ = some (.int .i64 z4) := by simp [World.cell?, hbx, rowVals]
        have c5 : wr.cell? ⟨w1.heap.size, 5, none⟩ = some (.int .i64 z5) := by simp [World.cell?, hbx, rowVals]
        have c6 : wr.cell? ⟨w1.heap.size, 6, none⟩ = some (.int .i64 z6) := by simp [World.cell?, hbx, rowVals]
        have c7 : wr.cell? ⟨w1.heap.size, 7, none⟩ = some (.int .i64 z7) := by simp [World.cell?, hbx, rowVals]
        have c8 : wr.cell? ⟨w1.heap.size, 8, none⟩ = some (.int .i64 z8) := by simp [World.cell?, hbx, rowVals]
        have c9 : wr.cell? ⟨w1.heap.size, 9, none⟩ = some (.int .i64 z9) := by simp [World.cell?, hbx, rowVals]
        have cn := CN.out
        simp only [rowV, rowVals, List.map] at cn
        have CN' := Lib.hid cn
        clear hks hrk hkk hbx CN cn
        go_wp2_with fail
        refine CN'.out.mono ?_
        rintro e w3 ⟨rfl, sv3, hI3, hS3⟩
        have HI3 := Lib.hid hI3
        have HS3 := Lib.hid hS3
        clear hI3 hS3 c0 c1 c2 c3 c4 c5 c6 c7 c8 c9
        obtain ⟨x, y, hxy⟩ : ∃ x y : Int, numR (addR r [z0, z1, z2, z3, z4, z5, z6, z7, z8, z9]).2 = .tuple #[.int .i64 x, .int .i64 y] := ⟨_, _, rfl⟩
        rw [hxy]
        have HXY := Lib.hid hxy
        clear hxy
        go_wp2
        go_ret2
        unfold KPost
        rw [HKK.out, HXY.out]
        exact ⟨rfl, sv3, HI3.out, HS2.out.trans (HS.out.trans HS3.out)⟩

end Go.Proofs.Ytkejacodofmlhaa
