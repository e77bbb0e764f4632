/- Small contracts for examples: a variable, a literal turned, the signature of $true, a and f. -/
import Derived.Test.YtbdabdjpgmnejaaGreatQDa
import Derived.Test.YtbdabdjpgmnejaaGreatQBm
import Derived.Test.YtbdabdjpgmnejaaGreatQBq
namespace Go.Proofs.YtbdabdjpgmnejaaGreat
set_option linter.unusedVariables false
set_option linter.unusedSimpArgs false
open Go.RowKit

def g9 : Sg := [sy0, ⟨⟨#[97]⟩, 0, 1, false⟩, ⟨⟨#[102]⟩, 1, 1, false⟩]
def cells9 : List Value := [.string ⟨#[36, 116, 114, 117, 101]⟩, .int .i64 0, .int .i64 1, .bool true, .string ⟨#[97]⟩, .int .i64 0, .int .i64 1, .bool false, .string ⟨#[102]⟩, .int .i64 1, .int .i64 1, .bool false]
theorem g9_mem {b : Nat} {X : World} (h : Cs b cells9 X) : IsSg X.heap.size X g9 (some ⟨b, 0, none⟩) 3 := by
  obtain ⟨h1, h2⟩ := h
  refine ⟨by simp [g9], by simp [maxLen], .inr ⟨b, 0, rfl, h1, fun j x hx => ?_⟩⟩
  match j, hx with
  | 0, hx => simp [g9] at hx; subst hx; exact ⟨⟨by decide, by decide, by decide⟩, h2 0 _ rfl, h2 1 _ rfl, h2 2 _ rfl, h2 3 _ rfl⟩
  | 1, hx => simp [g9] at hx; subst hx; exact ⟨⟨by decide, by decide, by decide⟩, h2 4 _ rfl, h2 5 _ rfl, h2 6 _ rfl, h2 7 _ rfl⟩
  | 2, hx => simp [g9] at hx; subst hx; exact ⟨⟨by decide, by decide, by decide⟩, h2 8 _ rfl, h2 9 _ rfl, h2 10 _ rfl, h2 11 _ rfl⟩
  | j + 3, hx => simp [g9] at hx
def F9 : T := .node 2 [.node (-1) []]
def A9 : T := .node 1 []
theorem args9 {br : Nat} {X : World} (h : Cs br [.int .i64 (-1), .slice none 0 0] X) : IsArgs X.heap.size X F9.args (some ⟨br, 0, none⟩) 1 := by
  obtain ⟨h1, h2⟩ := h
  exact ⟨by simp [F9, T.args], by simp [maxLen], .inr ⟨br, 0, rfl, h1, ⟨by decide, h2 0 _ rfl, _, _, h2 1 _ rfl, by simp, by simp [maxLen], .inl rfl⟩, trivial⟩⟩
theorem argsA9 (X : World) : IsArgs X.heap.size X A9.args none 0 := ⟨by simp [A9, T.args], by simp [maxLen], .inl rfl⟩
/-- The example's literal. -/
def X9 (br : Nat) : LV := ⟨false, A9, F9, none, 0, some ⟨br, 0, none⟩, 1⟩
theorem x9_mem {br : Nat} {X : World} (h : Cs br [.int .i64 (-1), .slice none 0 0] X) : IsLv X.heap.size X (X9 br) := ⟨(show (Lit.int .i64 1).wf = true from by decide), (show (Lit.int .i64 2).wf = true from by decide), argsA9 X, args9 h⟩

set_option maxRecDepth 100000 in
set_option maxHeartbeats 1000000 in
theorem turn_any (x : LV) (w : World) : Calls Tryz.prog 39 #[x.v] w fun e w' => e = .returned x.turn.v ∧ Below w.heap.size w w' := by
  obtain ⟨xn, xl, xr, xpa, xca, xpb, xcb⟩ := x
  have HF := Lib.hid (show Below w.heap.size w ((w.alloc (LV.mk xn xl xr xpa xca xpb xcb).obj).alloc (LV.mk xn xl xr xpa xca xpb xcb).turn.obj) from ((Below.refl _ w).alloc (Nat.le_refl _) _).alloc (by simp) _)
  go_enter Tryz.func39, Tryz.ntmps39
  go_wp2
  refine bodyPost_ret (v := (LV.mk xn xl xr xpa xca xpb xcb).turn.v) (by simp [results, Tryz.results39, go_sem, LV.turn]) rfl ?_
  exact ⟨rfl, HF.out⟩

end Go.Proofs.YtbdabdjpgmnejaaGreat
