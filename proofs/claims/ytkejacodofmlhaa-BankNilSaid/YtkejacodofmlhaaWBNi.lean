/- The walk of BankNil. -/
import Derived.Test.YtkejacodofmlhaaBkW
import Derived.Test.YtkejacodofmlhaaCount
namespace Go.Proofs.Ytkejacodofmlhaa
set_option linter.unusedVariables false
set_option linter.unusedSimpArgs false
open Go.RowKit Go.Maps

theorem nilPut_any (h : Int) (a : Option Addr) (k c : Nat) (w : World) : Calls Try.prog 15 #[.pointer none, tm h a k c] w fun e w' => e = .returned (.tuple #[.int .i64 0, .int .i64 3]) ∧ Below w.heap.size w w' := by
  go_enter Try.func15, Try.ntmps15
  go_wp2
  go_ret2
  exact ⟨rfl, (Below.refl _ _).alloc (Nat.le_refl _) _⟩
theorem nilSize_any (w : World) : Calls Try.prog 25 #[.pointer none] w fun e w' => e = .returned (.int .i64 0) ∧ w' = w := by
  go_enter Try.func25, Try.ntmps25
  go_wp2
  go_ret
  exact ⟨rfl, rfl⟩
theorem nilFind_any (h : Int) (a : Option Addr) (k c : Nat) (w : World) : Calls Try.prog 17 #[.pointer none, tm h a k c] w fun e w' => e = .returned (.tuple #[.int .i64 0, .bool false]) ∧ Below w.heap.size w w' := by
  go_enter Try.func17, Try.ntmps17
  go_wp2_with fail
  refine (nilSize_any _).mono ?_
  rintro e w' ⟨rfl, rfl⟩
  go_wp2
  go_ret2
  exact ⟨rfl, (Below.refl _ _).alloc (Nat.le_refl _) _⟩
theorem nilCheck_any (id : Int) (w : World) : Calls Try.prog 41 #[.pointer none, .int .i64 id] w fun e w' => e = .returned (.int .i64 3) ∧ w' = w := by
  go_enter Try.func41, Try.ntmps41
  go_wp2
  go_ret
  exact ⟨rfl, rfl⟩
theorem nilTerm_any (id : Int) (w : World) : Calls Try.prog 19 #[.pointer none, .int .i64 id] w fun e w' => e = .returned (.tuple #[tm 0 none 0 0, .int .i64 3]) ∧ Below w.heap.size w w' := by
  go_enter Try.func19, Try.ntmps19
  go_wp2_with fail
  refine (nilCheck_any _ _).mono ?_
  rintro e w' ⟨rfl, rfl⟩
  go_wp2
  exact bodyPost_ret (v := .tuple #[tm 0 none 0 0, .int .i64 3]) (by simp [results, Try.results19, go_sem]) rfl ⟨rfl, (Below.refl _ _).alloc (Nat.le_refl _) _⟩
theorem nilArgs_any (id : Int) (w : World) : Calls Try.prog 21 #[.pointer none, .int .i64 id] w fun e w' => e = .returned (.tuple #[.slice none 0 0, .int .i64 3]) ∧ w' = w := by
  go_enter Try.func21, Try.ntmps21
  go_wp2_with fail
  refine (nilCheck_any _ _).mono ?_
  rintro e w' ⟨rfl, rfl⟩
  go_wp2
  go_ret2
  exact ⟨rfl, rfl⟩

set_option maxRecDepth 100000 in
set_option maxHeartbeats 4000000 in
theorem bankNil_walk (t : T) (id : Int) (a : Option Addr) (c : Nat) (w : World) (hwf : (Lit.int .i64 t.head).wf = true) (hid : (Lit.int .i64 id).wf = true) (hA : IsArgs w.heap.size w t.args a c) :
    Calls Try.prog 7 #[tm t.head a t.args.length c, .int .i64 id] w fun e w' => e = .returned (.bool true) ∧ Below w.heap.size w w' := by
  have hb1 : Below w.heap.size w (w.alloc (tmCells t.head a t.args.length c)) := (Below.refl _ _).alloc (Nat.le_refl _) _
  have CF := Lib.hid (few_any t w.heap.size a c _ (by simp) (hA.below hb1))
  have HR := Lib.hid (show ∀ W, Below (w.alloc (tmCells t.head a t.args.length c)).heap.size (w.alloc (tmCells t.head a t.args.length c)) W → W.cell? ⟨w.heap.size, 0, none⟩ = some (.int .i64 t.head) ∧ W.cell? ⟨w.heap.size, 1, none⟩ = some (.slice a t.args.length c) from fun W hW =>
    ⟨Mm.cell_via hW (by simp) (by simp [go_sem]), Mm.cell_via hW (by simp) (by simp [go_sem])⟩)
  have HB1 := Lib.hid hb1
  clear hA hb1 hwf hid
  go_enter Try.func7, Try.ntmps7
  go_wp2_with fail
  refine CF.out.mono ?_
  rintro e w2 ⟨rfl, hb2⟩
  obtain ⟨q0, q1⟩ := HR.out w2 hb2
  have HB2 := Lib.hid hb2
  clear hb2 CF
  by_cases hf : t.size ≤ 500
  · rw [decide_eq_true hf]
    clear hf
    go_wp2_with fail
    refine (nilPut_any _ _ _ _ _).mono ?_
    rintro e w3 ⟨rfl, hb3⟩
    obtain ⟨r0, r1⟩ := HR.out w3 (HB2.out.trans (hb3.mono HB2.out.size))
    have HB3 := Lib.hid (HB2.out.trans (hb3.mono HB2.out.size))
    clear hb3 q0 q1
    go_wp2_with fail
    refine (nilFind_any _ _ _ _ _).mono ?_
    rintro e w4 ⟨rfl, hb4⟩
    have HB4 := Lib.hid (HB3.out.trans (hb4.mono HB3.out.size))
    clear hb4 r0 r1
    go_wp2_with fail
    refine (nilTerm_any _ _).mono ?_
    rintro e w5 ⟨rfl, hb5⟩
    have HB5 := Lib.hid (HB4.out.trans (hb5.mono HB4.out.size))
    clear hb5
    go_wp2_with fail
    refine (nilArgs_any _ _).mono ?_
    rintro e w6 ⟨rfl, hw6⟩
    have h6 : Below w5.heap.size w5 w6 := by rw [hw6]; exact (Below.refl _ _).alloc (Nat.le_refl _) _
    have HB6 := Lib.hid (HB5.out.trans (h6.mono HB5.out.size))
    clear hw6 h6
    go_wp2_with fail
    refine (awake6_any _).mono ?_
    rintro e w7 ⟨rfl, hb7⟩
    have HB7 := Lib.hid (HB6.out.trans (hb7.mono HB6.out.size))
    clear hb7
    go_wp2_with fail
    refine (nilSize_any _).mono ?_
    rintro e w8 ⟨rfl, rfl⟩
    go_wp2
    go_ret
    exact ⟨rfl, HB1.out.trans (HB7.out.mono HB1.out.size)⟩
  · rw [decide_eq_false hf]
    clear hf
    go_wp2
    go_ret
    exact ⟨rfl, HB1.out.trans (HB2.out.mono HB1.out.size)⟩

end Go.Proofs.Ytkejacodofmlhaa
