/- Contracts of the small functions: isVariable, variable, Var, Fun, subterms. -/
import Derived.Test.YtleohdddaadbeaaGreatProg
import Derived.Test.YtleohdddaadbeaaGreatTm
import Derived.Test.YtleohdddaadbeaaGreatRf
import Derived.BigQuiet
import Derived.Deep.QuietTactic
namespace Go.Proofs.YtleohdddaadbeaaGreat
set_option linter.unusedVariables false
set_option linter.unusedSimpArgs false
open Go.RowKit

abbrev tm (h : Int) (a : Option Addr) (k c : Nat) : Value := .agg #[.int .i64 h, .slice a k c]
abbrev tmCells (h : Int) (a : Option Addr) (k c : Nat) : Obj := .cells #[.int .i64 h, .slice a k c] 25

theorem isVariable_any (h : Int) (a : Option Addr) (k c : Nat) (w : World) :
    Calls Tryz.prog 99 #[tm h a k c] w fun e w' => e = .returned (.bool (decide (h < 0))) ∧ w' = w.alloc (tmCells h a k c) := by
  go_enter Tryz.func99, Tryz.ntmps99
  go_wp2
  go_ret
  exact ⟨rfl, rfl⟩

theorem variable_any (h : Int) (a : Option Addr) (k c : Nat) (w : World) (h1 : -9223372036854775808 ≤ h) (h2 : h < 0) :
    Calls Tryz.prog 100 #[tm h a k c] w fun e w' => e = .returned (.int .i64 (-1 - h)) ∧ w' = w.alloc (tmCells h a k c) := by
  go_enter Tryz.func100, Tryz.ntmps100
  go_wp2
  go_ret
  exact ⟨rfl, rfl⟩

theorem var_any (x : Int) (w : World) (h1 : 0 ≤ x) (h2 : x ≤ 1000) :
    Calls Tryz.prog 23 #[.int .i64 x] w fun e w' => e = .returned (tm (-1 - x) none 0 0) ∧ Below w.heap.size w w' := by
  go_enter Tryz.func23, Tryz.ntmps23
  go_wp2
  exact bodyPost_ret (v := tm (-1 - x) none 0 0) (by simp [results, Tryz.results23, go_sem]) rfl ⟨rfl, ((Below.refl _ _).alloc (Nat.le_refl _) _)⟩

theorem fun_any (h : Int) (a : Option Addr) (k c : Nat) (w : World) :
    Calls Tryz.prog 22 #[.int .i64 h, .slice a k c] w fun e w' => e = .returned (tm h a k c) ∧ Below w.heap.size w w' := by
  go_enter Tryz.func22, Tryz.ntmps22
  go_wp2
  exact bodyPost_ret (v := tm h a k c) (by simp [results, Tryz.results22, go_sem]) rfl ⟨rfl, ((Below.refl _ _).alloc (Nat.le_refl _) _)⟩

theorem subterms_any (h : Int) (a : Option Addr) (k c : Nat) (w : World) :
    Calls Tryz.prog 87 #[tm h a k c] w fun e w' => e = .returned (.func (.func 98) #[] #[.pointer (some ⟨w.heap.size, 0, none⟩)]) ∧ w' = w.alloc (tmCells h a k c) := by
  go_enter Tryz.func87, Tryz.ntmps87
  go_wp2
  go_ret
  exact ⟨rfl, rfl⟩

/-- What 'allowed' says of a subterm. -/
def okB (h : Int) (k : Nat) : Bool := if h < 0 then decide (k = 0) && decide (-1 - h ≤ 255) else decide (h ≤ 1023) && decide (k ≤ 8)

theorem allowed_any (h : Int) (a : Option Addr) (k c : Nat) (w : World) (h1 : -9223372036854775808 ≤ h) :
    Calls Tryz.prog 88 #[tm h a k c] w fun e w' => e = .returned (.bool (okB h k)) ∧ Below w.heap.size w w' := by
  by_cases hh : h < 0
  · by_cases hk : k = 0
    · subst hk
      have hb : decide (h < 0) = true := by simpa using hh
      go_enter Tryz.func88, Tryz.ntmps88
      go_wp2_with (first | (go_at_call 99; refine (isVariable_any _ _ _ _ _).mono ?_; rintro e w' ⟨rfl, rfl⟩) | (go_at_call 100; refine (variable_any _ _ _ _ _ h1 hh).mono ?_; rintro e w' ⟨rfl, rfl⟩))
      go_ret
      refine ⟨?_, ?_⟩
      · simp [okB, hh]
      · exact (((Below.refl _ _).alloc (Nat.le_refl _) _).alloc (by simp) _).alloc (by simp; omega) _
    · have hb : decide (h < 0) = true := by simpa using hh
      have hk' : ((k : Int) == 0) = false := by simpa using hk
      go_enter Tryz.func88, Tryz.ntmps88
      go_wp2_with (go_at_call 99; refine (isVariable_any _ _ _ _ _).mono ?_; rintro e w' ⟨rfl, rfl⟩)
      go_ret
      refine ⟨?_, ?_⟩
      · simp [okB, hh, hk]
      · exact ((Below.refl _ _).alloc (Nat.le_refl _) _).alloc (by simp) _
  · have hb : decide (h < 0) = false := by simpa using hh
    by_cases hm : h ≤ 1023
    · have hm' : decide (h ≤ 1023) = true := by simpa using hm
      go_enter Tryz.func88, Tryz.ntmps88
      go_wp2_with (go_at_call 99; refine (isVariable_any _ _ _ _ _).mono ?_; rintro e w' ⟨rfl, rfl⟩)
      go_ret
      refine ⟨?_, ?_⟩
      · rw [okB, if_neg (by omega), decide_eq_true hm]; simp; omega
      · exact ((Below.refl _ _).alloc (Nat.le_refl _) _).alloc (by simp) _
    · have hm' : decide (h ≤ 1023) = false := by simpa using hm
      go_enter Tryz.func88, Tryz.ntmps88
      go_wp2_with (go_at_call 99; refine (isVariable_any _ _ _ _ _).mono ?_; rintro e w' ⟨rfl, rfl⟩)
      go_ret
      refine ⟨?_, ?_⟩
      · rw [okB, if_neg (by omega)]; simp; omega
      · exact ((Below.refl _ _).alloc (Nat.le_refl _) _).alloc (by simp) _

end Go.Proofs.YtleohdddaadbeaaGreat
