/- Contracts of the bank's Find, Term and Args. -/
import Derived.Test.YtkejacodofmlhaaBkP
namespace Go.Proofs.Ytkejacodofmlhaa
set_option linter.unusedVariables false
set_option linter.unusedSimpArgs false
open Go.RowKit Go.Maps

def findV (L : List T) (t : T) : Option Nat := if t.check = 0 then fi L t else none

set_option maxRecDepth 100000 in
set_option maxHeartbeats 4000000 in
theorem find_any (B : Nat) (F : Nat → Prop) (bb : Nat) (L : List T) (t : T) (ht : t.size ≤ 1000000000000) (n₀ : Nat) (a : Option Addr) (c : Nat) (w : World) (hn : n₀ ≤ w.heap.size) (hG : BankAt B F w bb L) (hwf : (Lit.int .i64 t.head).wf = true) (hA : IsArgs n₀ w t.args a c) :
    Calls Try.prog 17 #[.pointer (some ⟨bb, 0, none⟩), tm t.head a t.args.length c] w (SrPost (findV L t) w) := by
  have hb1 : Below w.heap.size w (w.alloc (tmCells t.head a t.args.length c)) := (Below.refl _ _).alloc (Nat.le_refl _) _
  have CS := Lib.hid (bsize_any _ (hG.later hb1))
  have CC := Lib.hid (check_any t ht n₀ a c (w.alloc (tmCells t.head a t.args.length c)) (by simp; omega) hwf (hA.below (hb1.mono hn)))
  have HB1 := Lib.hid hb1
  have r0 : ∀ W, Below (w.alloc (tmCells t.head a t.args.length c)).heap.size (w.alloc (tmCells t.head a t.args.length c)) W → W.cell? ⟨w.heap.size, 0, none⟩ = some (.int .i64 t.head) ∧ W.cell? ⟨w.heap.size, 1, none⟩ = some (.slice a t.args.length c) := fun W hW =>
    ⟨(hW.cell (p := ⟨w.heap.size, 0, none⟩) (by simp)).trans (by simp [go_sem]), (hW.cell (p := ⟨w.heap.size, 1, none⟩) (by simp)).trans (by simp [go_sem])⟩
  have HR := Lib.hid r0
  have HG := Lib.hid hG
  have HA := Lib.hid hA
  have HWF := Lib.hid hwf
  clear r0 hG hA hb1 hwf
  by_cases hl : L.length = 0
  · have hl0 : ((L.length : Int) == 0) = true := by simp [hl]
    have hfv : findV L t = none := by
      have : L = [] := List.eq_nil_of_length_eq_zero hl
      subst this
      unfold findV fi
      split <;> simp
    have HFV := Lib.hid hfv
    clear hfv hl
    go_enter Try.func17, Try.ntmps17
    go_wp2_with fail
    refine CS.out.mono ?_
    rintro e w2 ⟨rfl, rfl⟩
    clear CS CC
    go_wp2
    go_ret2
    unfold SrPost
    rw [HFV.out]
    exact ⟨rfl, HB1.out⟩
  · have hl0 : ((L.length : Int) == 0) = false := beq_eq_false_iff_ne.2 (by omega)
    clear hl
    go_enter Try.func17, Try.ntmps17
    go_wp2_with fail
    refine CS.out.mono ?_
    rintro e w2 ⟨rfl, rfl⟩
    clear CS
    go_wp2_with fail
    refine CC.out.mono ?_
    rintro e w2 ⟨rfl, hb2⟩
    have hbw : Below w.heap.size w w2 := HB1.out.trans (hb2.mono HB1.out.size)
    obtain ⟨q0, q1⟩ := HR.out w2 hb2
    have HBW := Lib.hid hbw
    clear hb2 hbw CC
    by_cases hc : t.check = 0
    · have hne : (t.check != 0) = false := by simpa using hc
      obtain ⟨Tb, sv, M, rs, h1, h2, h3, h4, h5, h6, h7⟩ := HG.out
      have hbl := (Array.getElem?_eq_some_iff.1 h1).1
      have hbl2 : bb < w2.heap.size := Nat.lt_of_lt_of_le hbl HBW.out.size
      have c0 : w2.cell? ⟨bb, 0, none⟩ = some (.pointer (some ⟨Tb, 0, none⟩)) := (HBW.out.cell (p := ⟨bb, 0, none⟩) hbl).trans (by simp [World.cell?, h1])
      have hbd : Below w.heap.size w w2.drew := HBW.out.drew
      have ck := search_any t.size t (Nat.le_refl _) (nar_of_check _ t (Nat.le_refl _) hc) n₀ B Tb M sv rs a c w2.drew (by have := HBW.out.size; show n₀ ≤ w2.heap.size; omega) (h3.later hbd) HWF.out (HA.out.below (hbd.mono hn))
      have hfv : findV L t = sr rs t := by unfold findV; rw [if_pos hc, sr_fi h4 _ t (Nat.le_refl _)]
      rw [← hfv] at ck
      obtain ⟨x, y, hxy⟩ : ∃ (x : Int) (y : Bool), foundR (findV L t) = .tuple #[.int .i64 x, .bool y] := ⟨_, _, rfl⟩
      unfold SrPost at ck
      rw [hxy] at ck
      have HXY := Lib.hid hxy
      have CK := Lib.hid ck
      clear ck hxy hfv h1 h3 h4 h5 h6 h7 hc hbd
      go_wp2
      go_region_law (first | (go_simp; go_at_call 40; refine CK.out.mono ?_; rintro e w3 ⟨rfl, hb3⟩))
      all_goals
        have HB3 := Lib.hid hb3
        clear hb3
        go_wp2
        go_ret2
        unfold SrPost
        rw [HXY.out]
        exact ⟨rfl, HBW.out.drew.trans (HB3.out.mono HBW.out.drew.size)⟩
    · have hne : (t.check != 0) = true := by simpa using hc
      have hfv : findV L t = none := by unfold findV; rw [if_neg hc]
      have HFV := Lib.hid hfv
      clear hc hfv
      go_wp2
      go_ret2
      unfold SrPost
      rw [HFV.out]
      exact ⟨rfl, HBW.out⟩

/-! ### Term -/
def TmPost (L : List T) (id : Int) (w : World) (e : Ending) (w' : World) : Prop :=
  (chkI L.length id = 0 ∧ ∃ t a c, L[id.toNat]? = some t ∧ e = .returned (.tuple #[tm t.head a t.args.length c, .int .i64 0]) ∧ IsArgsp (fun b => w.heap.size ≤ b ∧ b < w'.heap.size) w' t.args a c ∧ Below w.heap.size w w') ∨
    (chkI L.length id = 6 ∧ e = .returned (.tuple #[tm 0 none 0 0, .int .i64 6]) ∧ Below w.heap.size w w')
theorem chk_cases (n : Nat) (id : Int) : chkI n id = 0 ∧ 0 ≤ id ∧ id.toNat < n ∨ chkI n id = 6 ∧ (id < 0 ∨ (n : Int) ≤ id) := by
  unfold chkI
  split
  · exact .inr ⟨rfl, by assumption⟩
  · exact .inl ⟨rfl, by omega, by omega⟩

set_option maxRecDepth 100000 in
set_option maxHeartbeats 4000000 in
theorem bterm_any (B : Nat) (F : Nat → Prop) (bb : Nat) (L : List T) (id : Int) (w : World) (hB : B ≤ w.heap.size) (hG : BankAt B F w bb L) :
    Calls Try.prog 19 #[.pointer (some ⟨bb, 0, none⟩), .int .i64 id] w (TmPost L id w) := by
  have hb1 : Below w.heap.size w (w.alloc (tmCells 0 none 0 0)) := (Below.refl _ _).alloc (Nat.le_refl _) _
  have CC := Lib.hid (bcheck_any id _ (hG.later hb1))
  have HB1 := Lib.hid hb1
  rcases chk_cases L.length id with ⟨hc, h0, hlt⟩ | ⟨hc, _⟩
  · obtain ⟨Tb, sv, M, rs, h1, h2, h3, h4, h5, h6, h7⟩ := hG
    have hbl := (Array.getElem?_eq_some_iff.1 h1).1
    have c0 : w.cell? ⟨bb, 0, none⟩ = some (.pointer (some ⟨Tb, 0, none⟩)) := by simp [World.cell?, h1]
    obtain ⟨i, rfl⟩ := Int.eq_ofNat_of_zero_le h0
    obtain ⟨t, hi⟩ : ∃ t, L[i]? = some t := ⟨_, List.getElem?_eq_getElem (by simpa using hlt)⟩
    have hcb := build_any t.size t (Nat.le_refl _) L B Tb M sv rs i (w.alloc (tmCells 0 none 0 0)) (by simp; omega) (h3.later hb1) h4 hi
    have CB := Lib.hid hcb
    have HC := Lib.hid hc
    have HI := Lib.hid hi
    rw [hc] at CC
    clear h1 h3 h4 h5 h6 h7 hb1 hcb hc hi h0 hlt
    go_enter Try.func19, Try.ntmps19
    go_wp2_with fail
    refine CC.out.mono ?_
    rintro e w2 ⟨rfl, rfl⟩
    clear CC
    go_wp2_with fail
    refine CB.out.mono ?_
    rintro e w3 ⟨a3, c3, rfl, hI, hb3⟩
    have r0 := (hb3.cell (p := ⟨w.heap.size, 0, none⟩) (by simp)).trans (show _ = some (Value.int .i64 0) from by simp [go_sem])
    have r1 := (hb3.cell (p := ⟨w.heap.size, 1, none⟩) (by simp)).trans (show _ = some (Value.slice none 0 0) from by simp [go_sem])
    have r2 := (hb3.frozen (p := ⟨w.heap.size, 0, none⟩) (by simp)).trans (show _ = false from by simp [go_sem])
    have r3 := (hb3.frozen (p := ⟨w.heap.size, 1, none⟩) (by simp)).trans (show _ = false from by simp [go_sem])
    have HI3 := Lib.hid hI
    have HB3 := Lib.hid hb3
    clear hI hb3 CB
    go_wp2
    have hbb := HB1.out.trans (HB3.out.mono HB1.out.size)
    refine bodyPost_ret (v := .tuple #[tm t.head a3 t.args.length c3, .int .i64 0]) (by simp [results, Try.results19, go_sem, r0, r1]) rfl (.inl ⟨HC.out, t, a3, c3, HI.out, rfl, HI3.out.keep (fun b hb => ?_) (fun b hb => ⟨?_, ?_⟩), (hbb.setCell (p := ⟨w.heap.size, 0, none⟩) (by simp) _).setCell (p := ⟨w.heap.size, 1, none⟩) (by simp) _⟩)
    · have h := hb.1
      simp at h
      exact (Below.heap_setCell _ _ _ _ (by show b ≠ w.heap.size; omega)).trans (Below.heap_setCell _ _ _ _ (by show b ≠ w.heap.size; omega))
    · have h := hb.1
      simp at h
      omega
    · simpa using hb.2
  · have HC := Lib.hid hc
    rw [hc] at CC
    clear hc hG
    go_enter Try.func19, Try.ntmps19
    go_wp2_with fail
    refine CC.out.mono ?_
    rintro e w2 ⟨rfl, rfl⟩
    clear CC
    go_wp2
    refine bodyPost_ret (v := .tuple #[tm 0 none 0 0, .int .i64 6]) (by simp [results, Try.results19, go_sem]) rfl (.inr ⟨HC.out, rfl, ?_⟩)
    exact HB1.out

/-! ### Args -/
def idsOf (L : List T) (t : T) : List Int := t.args.map (fun s => ((L.idxOf s : Nat) : Int))
theorem ids_eq {L : List T} {rs : List (List Int)} (E : Enc L rs) {t : T} {ids : List Int} (hl : ids.length = t.args.length)
    (hx : ∀ {j : Nat} {s : T}, t.args[j]? = some s → ∃ k : Nat, ids[j]? = some (k : Int) ∧ L[k]? = some s) : ids = idsOf L t := by
  refine List.ext_getElem (by simp [idsOf, hl]) (fun j h1 h2 => ?_)
  have hj : j < t.args.length := by omega
  obtain ⟨k, a, b⟩ := hx (List.getElem?_eq_getElem hj)
  have := (idx_at (fun {i j r} => E.nodup) b).2
  rw [List.getElem?_eq_getElem h1] at a
  rw [Option.some.inj a]
  simp [idsOf, this]
def AgPost (L : List T) (id : Int) (w : World) (e : Ending) (w' : World) : Prop :=
  (chkI L.length id = 0 ∧ ∃ t a c, L[id.toNat]? = some t ∧ e = .returned (.tuple #[.slice a t.args.length c, .int .i64 0]) ∧ IsInts w' (.slice a t.args.length c) (idsOf L t) ∧ Below w.heap.size w w') ∨
    (chkI L.length id = 6 ∧ e = .returned (.tuple #[.slice none 0 0, .int .i64 6]) ∧ Below w.heap.size w w')

set_option maxRecDepth 100000 in
set_option maxHeartbeats 4000000 in
theorem bargs_any (B : Nat) (F : Nat → Prop) (bb : Nat) (L : List T) (id : Int) (w : World) (hG : BankAt B F w bb L) :
    Calls Try.prog 21 #[.pointer (some ⟨bb, 0, none⟩), .int .i64 id] w (AgPost L id w) := by
  have CC := Lib.hid (bcheck_any id _ hG)
  rcases chk_cases L.length id with ⟨hc, h0, hlt⟩ | ⟨hc, _⟩
  · obtain ⟨Tb, sv, M, rs, h1, h2, h3, h4, h5, h6, h7⟩ := hG
    have hbl := (Array.getElem?_eq_some_iff.1 h1).1
    have c0 : w.cell? ⟨bb, 0, none⟩ = some (.pointer (some ⟨Tb, 0, none⟩)) := by simp [World.cell?, h1]
    obtain ⟨i, rfl⟩ := Int.eq_ofNat_of_zero_le h0
    obtain ⟨t, hi⟩ : ∃ t, L[i]? = some t := ⟨_, List.getElem?_eq_getElem (by simpa using hlt)⟩
    obtain ⟨ids, hr, hl, hx⟩ := h4.row hi
    have h8 := h4.nar t (List.mem_of_getElem? hi)
    have hid := ids_eq h4 hl (fun {j s} hs => by obtain ⟨k, a, _, b⟩ := hx hs; exact ⟨k, a, b⟩)
    rw [← hl] at hr
    have CB := Lib.hid (args_any B Tb M sv rs w h3 i t.head ids (by omega) hr)
    have HC := Lib.hid hc
    have HI := Lib.hid hi
    have HID := Lib.hid hid
    have HL := Lib.hid hl
    rw [hc] at CC
    clear h1 h3 h4 h5 h6 h7 hc hi h0 hlt hr hl hx hid
    go_enter Try.func21, Try.ntmps21
    go_wp2_with fail
    refine CC.out.mono ?_
    rintro e w2 ⟨rfl, rfl⟩
    clear CC
    go_wp2_with fail
    refine CB.out.mono ?_
    rintro e w3 ⟨a3, c3, rfl, hI, _, hb3⟩
    have HI3 := Lib.hid hI
    have HB3 := Lib.hid hb3
    clear hI hb3 CB
    go_wp2
    go_ret2
    have hI := HI3.out
    have hl := HL.out
    refine .inl ⟨HC.out, t, a3, c3, HI.out, by rw [← hl]; rfl, ?_, HB3.out⟩
    rw [← hl, ← HID.out]
    exact hI
  · have HC := Lib.hid hc
    rw [hc] at CC
    clear hc hG
    go_enter Try.func21, Try.ntmps21
    go_wp2_with fail
    refine CC.out.mono ?_
    rintro e w2 ⟨rfl, rfl⟩
    clear CC
    go_wp2
    go_ret2
    exact .inr ⟨HC.out, rfl, Below.refl _ _⟩

end Go.Proofs.Ytkejacodofmlhaa
