/- RSm: joined of Qt, RSm. -/
import Derived.Test.YtgjamdbiamleoaaLat
import Derived.Test.YtgjamdbiamleoaaLeaf
import Derived.Lib.QuietBelow
import Derived.Test.YtgjamdbiamleoaaSb
import Derived.Deep.CutRange
/- Steps through a region that only reads: what follows is shut in a structure, so that nothing unfolds it. -/
namespace Go.Proofs.Ytgjamdbiamleoaa
set_option linter.unusedVariables false
set_option linter.unusedSimpArgs false
open Go.RowKit Go.Sort

/-- The rest of the lexical walk, shut. -/
structure WQ (P : Program) (ops : Array Oper) (C : World → Prop) (Q : Act → Prop) (l : List Oper) (a : Act) : Prop where
  out : wpQuiet P ops C Q l a
section
variable {P : Program} {ops : Array Oper} {C : World → Prop} {Q : Act → Prop} {a : Act} {o : Oper} {rest : List Oper}
theorem WQ.nil (h : Q a) : WQ P ops C Q [] a := ⟨wpQuiet_nil h⟩
theorem WQ.skip (hw : Region.wanted o (yielded ops a.tmps) = false) (h : WQ P ops C Q rest (a.put o.dst undef)) : WQ P ops C Q (o :: rest) a := by
  refine ⟨?_⟩
  unfold wpQuiet
  rw [hw]
  exact h.out
theorem WQ.two {v : Value} (hw : Region.wanted o (yielded ops a.tmps) = true) (h : ∀ w, C w → o.quietAt P a C w v) (hr : WQ P ops C Q rest (a.put o.dst v)) : WQ P ops C Q (o :: rest) a := by
  refine ⟨?_⟩
  unfold wpQuiet
  rw [hw]
  exact ⟨v, h, hr.out⟩
end
theorem wp_region_wq {P : Program} {id : Nat} {Q : Exit → Act → World → Prop} {a : Act} {w : World} {l : List Oper} (hm : P.follows .mixedOrders = true) (hB : Region.lexB .any l.toArray = true)
    (h : WQ P l.toArray (fun w' => ∃ p : Regrown, w' = grow (redrawn w p.d) p.os) (fun a' => ∀ w', (∃ p : Regrown, w' = grow (redrawn w p.d) p.os) → Q .normal a' w') l a) : (Code.region id l.toArray true).wp P Q a w :=
  wp_region_quiet_below hm hB h.out

end Go.Proofs.Ytgjamdbiamleoaa

/- Contract of the reference's Same of substitutions, at two that are the same. -/
namespace Go.Proofs.Ytgjamdbiamleoaa
set_option linter.unusedVariables false
set_option linter.unusedSimpArgs false
open Go.RowKit Go.Sort

def SmI (n : Nat) (w : World) (i : Value) (wr : World) : Prop := ∃ k : Nat, k ≤ n ∧ i = .int .i64 k ∧ Below w.heap.size w wr

set_option maxRecDepth 100000 in
set_option maxHeartbeats 4000000 in
theorem sameS_any (s : Sb) (hsz : ∀ x ∈ s, x.2.size ≤ 1000000000000) (n₀ : Nat) (a : Option Addr) (c : Nat) (a' : Option Addr) (c' : Nat) (w : World) (hn : n₀ ≤ w.heap.size) (hS : IsBs n₀ w s a c) (hU : IsBs n₀ w s a' c') :
    Calls Try.prog 23 #[.slice a s.length c, .slice a' s.length c'] w fun e w' => e = .returned (.bool true) ∧ Below w.heap.size w w' := by
  have hl : s.length ≤ c ∧ c ≤ maxLen := ⟨hS.1, hS.2.1⟩
  have hl' : s.length ≤ c' ∧ c' ≤ maxLen := ⟨hU.1, hU.2.1⟩
  unfold maxLen at hl hl'
  obtain ⟨hl1, hl2⟩ := hl
  obtain ⟨hl3, hl4⟩ := hl'
  have HS := Lib.hid hS
  have HU := Lib.hid hU
  have HZ := Lib.hid hsz
  clear hS hU hsz
  go_enter Try.func23, Try.ntmps23
  go_wp2
  go_loopw [5] (fun i wr => SmI s.length w i wr) (fun i _ => s.length - (intOf i).toNat)
  case atStart => exact ⟨0, Nat.zero_le _, rfl, Below.refl _ _⟩
  case round =>
    obtain ⟨k, hk, rfl, hB⟩ := hrel
    have HB := Lib.hid hB
    have hbz := hB.size
    clear hB
    by_cases hlt : k < s.length
    · obtain ⟨b, o, x, t, a1, c1, rfl, hbn, hsk, hxw, htw, hc0, hc1, hc2, hA1⟩ := (HS.out.below (HB.out.mono hn)).elem (i := k) hlt
      obtain ⟨b', o', x', t', a2, c2, rfl, hbn', hsk', hxw', htw', hd0, hd1, hd2, hA2⟩ := (HU.out.below (HB.out.mono hn)).elem (i := k) hlt
      rw [hsk] at hsk'
      simp only [Option.some.injEq, Prod.mk.injEq] at hsk'
      obtain ⟨rfl, rfl⟩ := hsk'
      have hk0 : (0 : Int) ≤ (k : Int) := Int.natCast_nonneg _
      have hk1 : (k : Int) < (s.length : Int) := by omega
      have hts : t.size ≤ 1000000000000 := HZ.out (x, t) (List.mem_of_getElem? hsk)
      have hbw : b < wr.heap.size := by omega
      have hbw' : b' < wr.heap.size := by omega
      have hnw : n₀ ≤ wr.heap.size := by omega
      have C1 := Lib.hid (show ∀ W, Below wr.heap.size wr W → Calls Try.prog 21 #[tm t.head a1 t.args.length c1, tm t.head a2 t.args.length c2] W fun e w' => e = .returned (.bool true) ∧ Below W.heap.size W w' from fun W hW => sameAt_any t t rfl hts n₀ a1 c1 a2 c2 W (Nat.le_trans hnw hW.size) (hA1.below (hW.mono hnw)) (hA2.below (hW.mono hnw)))
      clear hsk hxw htw hxw' htw' hA1 hA2 HS HU HZ
      go_wp2
      go_cut [41] from 17 to 41 (fun v41 wx => v41 = .bool false ∧ Below wr.heap.size wr wx)
      case first =>
        have f0 := fun d os => cell_regrown hc0 d os
        have f1 := fun d os => cell_regrown hc1 d os
        have f2 := fun d os => cell_regrown hc2 d os
        have g0 := fun d os => cell_regrown hd0 d os
        have g1 := fun d os => cell_regrown hd1 d os
        have g2 := fun d os => cell_regrown hd2 d os
        clear HB
        refine wp_region_wq (by kernel_rfl) (by kernel_rfl) ?_
        repeat (first
          | (refine WQ.skip (by rfl) ?_; simp only [Act.put, List.setIfInBounds_toArray, List.set_cons_succ, List.set_cons_zero])
          | (apply WQ.two (by rfl); (intro w' hw'; obtain ⟨pq, rfl⟩ := hw'; go_simp; first | (with_reducible exact Calls.regrown_of (C1.out _ (below_regrown _ _ _))) | exact rfl); simp only [Act.put, List.setIfInBounds_toArray, List.set_cons_succ, List.set_cons_zero]))
        refine WQ.nil ?_
        intro _ hw'
        obtain ⟨⟨dq, osq⟩, hw''⟩ := hw'
        subst hw''
        go_wp2
        go_meet
        exact ⟨by simp, below_regrown wr dq osq⟩
      case rest =>
        obtain ⟨rfl, hbx⟩ := hcut
        have HBX := Lib.hid (HB.out.trans (hbx.mono HB.out.size))
        clear hbx
        go_wp2
        go_roundw
        case rel => exact ⟨k + 1, by omega, by go_num, HBX.out⟩
        case measure => simp [intOf]; omega
    · go_wp2
      go_ret
      exact ⟨rfl, HB.out⟩

end Go.Proofs.Ytgjamdbiamleoaa
