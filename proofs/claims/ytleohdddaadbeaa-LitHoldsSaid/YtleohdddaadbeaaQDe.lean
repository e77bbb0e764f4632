/- QDe: joined of Qt0, Lat, RRt, RLa. -/
import Derived.Test.YtleohdddaadbeaaLeaf
import Derived.Lib.QuietBelow
import Derived.Deep.CutRange
import Derived.Test.YtleohdddaadbeaaQBd
import Derived.Test.YtleohdddaadbeaaRef
import Derived.Test.YtleohdddaadbeaaOrd
import Derived.Test.YtleohdddaadbeaaQDc
import Derived.Test.YtleohdddaadbeaaQBm
import Derived.Test.YtleohdddaadbeaaQDd
/- Steps through a region that only reads: split off RSm. -/
/- Steps through a region that only reads: what follows is shut in a structure, so that nothing unfolds it. -/
namespace Go.Proofs.Ytleohdddaadbeaa
set_option linter.unusedVariables false
set_option linter.unusedSimpArgs false
open Go.RowKit Go.Sort

/-- The rest of the lexical walk, shut. -/
structure WQ (P : Program) (ops : Array Oper) (C : World → Prop) (Q : Act → Prop) (l : List Oper) (a : Act) : Prop where
  out : wpQuiet P ops C Q l a
section
variable {P : Program} {ops : Array Oper} {C : World → Prop} {Q : Act → Prop} {a : Act} {o : Oper} {rest : List Oper}
theorem WQ.nil (h : Q a) : WQ P ops C Q [] a := ⟨wpQuiet_nil h⟩
theorem WQ.skip (hw : Region.wanted o (yielded ops a.tmps) = false) (h : WQ P ops C Q rest (a.put o.dst undef)) : WQ P ops C Q (o :: rest) a := by
  refine ⟨?_⟩
  unfold wpQuiet
  rw [hw]
  exact h.out
theorem WQ.two {v : Value} (hw : Region.wanted o (yielded ops a.tmps) = true) (h : ∀ w, C w → o.quietAt P a C w v) (hr : WQ P ops C Q rest (a.put o.dst v)) : WQ P ops C Q (o :: rest) a := by
  refine ⟨?_⟩
  unfold wpQuiet
  rw [hw]
  exact ⟨v, h, hr.out⟩
end
theorem wp_region_wq {P : Program} {id : Nat} {Q : Exit → Act → World → Prop} {a : Act} {w : World} {l : List Oper} (hm : P.follows .mixedOrders = true) (hB : Region.lexB .any l.toArray = true)
    (h : WQ P l.toArray (fun w' => ∃ p : Regrown, w' = grow (redrawn w p.d) p.os) (fun a' => ∀ w', (∃ p : Regrown, w' = grow (redrawn w p.d) p.os) → Q .normal a' w') l a) : (Code.region id l.toArray true).wp P Q a w :=
  wp_region_quiet_below hm hB h.out

end Go.Proofs.Ytleohdddaadbeaa

/- Lat: a term equal to itself, by the reference. -/
namespace Go.Proofs.Ytleohdddaadbeaa
set_option linter.unusedVariables false
set_option linter.unusedSimpArgs false
open Go.RowKit

theorem sameAt_any (x y : T) (h : x = y) (hs : x.size ≤ 1000000000000) (n₀ : Nat) (a : Option Addr) (c : Nat) (a' : Option Addr) (c' : Nat) (w : World) (hn : n₀ ≤ w.heap.size) (hA : IsArgs n₀ w x.args a c) (hB : IsArgs n₀ w y.args a' c') :
    Calls Try.prog 44 #[tm x.head a x.args.length c, tm y.head a' y.args.length c'] w fun e w' => e = .returned (.bool true) ∧ Below w.heap.size w w' := by
  subst h
  refine (refSame_any x x hs hs n₀ a c a' c' w hn hA hB).mono fun e w' hh => ⟨?_, hh.2⟩
  rw [hh.1, T.cmp_self]; rfl


end Go.Proofs.Ytleohdddaadbeaa

/- Contracts of the reference's Right and Check of substitutions. -/
namespace Go.Proofs.Ytleohdddaadbeaa
set_option linter.unusedVariables false
set_option linter.unusedSimpArgs false
open Go.RowKit Go.Sort

def RtI (s : Sb) (w : World) (i : Value) (wr : World) : Prop := ∃ (k : Nat) (z : Int), k ≤ s.length ∧ i = .int .i64 k ∧ ((k = 0 ∧ z = 0) ∨ ∃ y u, 0 < k ∧ s[k - 1]? = some (y, u) ∧ z = y + 1 ∧ 0 ≤ y ∧ y ≤ 255) ∧ rightS 0 s = rightS z (s.drop k) ∧ Below w.heap.size w wr

set_option maxRecDepth 100000 in
set_option maxHeartbeats 40000000 in
theorem refRightS_any (s : Sb) (hsz : ∀ x ∈ s, x.2.size ≤ 1000000000000) (n₀ : Nat) (a : Option Addr) (c : Nat) (w : World) (hn : n₀ ≤ w.heap.size) (hS : IsBs n₀ w s a c) :
    Calls Try.prog 60 #[.slice a s.length c] w fun e w' => e = .returned (.bool (rightS 0 s)) ∧ Below w.heap.size w w' := by
  have hl : s.length ≤ c ∧ c ≤ maxLen := ⟨hS.1, hS.2.1⟩
  unfold maxLen at hl
  obtain ⟨hl1, hl2⟩ := hl
  have HS := Lib.hid hS
  have HZ := Lib.hid hsz
  clear hS hsz
  go_enter Try.func60, Try.ntmps60
  go_wp2
  go_loopw [3] (fun i wr => RtI s w i wr) (fun i _ => s.length - (intOf i).toNat)
  case atStart => exact ⟨0, 0, Nat.zero_le _, rfl, .inl ⟨rfl, rfl⟩, rfl, Below.refl _ _⟩
  case round =>
    obtain ⟨k, z, hk, rfl, hpr, hrt, hB⟩ := hrel
    have HR := Lib.hid hrt
    have HB := Lib.hid hB
    have hbz := hB.size
    clear hrt hB
    by_cases hlt : k < s.length
    · obtain ⟨b, o, x, t, a', c', rfl, hbn, hsk, hxw, htw, hc0, hc1, hc2, hA'⟩ := (HS.out.below (HB.out.mono hn)).elem (i := k) hlt
      have hk0 : (0 : Int) ≤ (k : Int) := Int.natCast_nonneg _
      have hk1 : (k : Int) < (s.length : Int) := by omega
      have HSK := Lib.hid hsk
      have HST := Lib.hid (rightS_step (l := z) hsk)
      have hts : t.size ≤ 1000000000000 := HZ.out (x, t) (List.mem_of_getElem? hsk)
      obtain ⟨hx1, hx2⟩ := wf_low hxw
      have hbw : b < wr.heap.size := by omega
      have hnw : n₀ ≤ wr.heap.size := by omega
      have C1 : Hid (∀ W, Below wr.heap.size wr W → Calls Try.prog 61 #[tm t.head a' t.args.length c'] W fun e w' => e = .returned (.bool (decide (t.check = 0))) ∧ Below W.heap.size W w') := Lib.hid (fun W hW => refRight_any t hts n₀ a' c' W (Nat.le_trans hnw hW.size) (hA'.below (hW.mono hnw)))
      have hz0 : 0 ≤ z ∧ z ≤ 256 := by rcases hpr with ⟨_, h⟩ | ⟨y, u, _, _, h, h2, h3⟩ <;> omega
      clear hsk htw hxw hA' hts
      obtain ⟨tst, htst⟩ : ∃ tst : Bool, tst = (decide (z ≤ x) && decide (x ≤ 255) && decide (t.check = 0) && decide (t.head ≠ -1 - x)) := ⟨_, rfl⟩
      have HTST := Lib.hid htst
      have hprev : ∀ y u, s[k - 1]? = some (y, u) → 0 < k → wr.cell? ⟨b, o + (k - 1) * 3, none⟩ = some (.int .i64 y) := fun y u hp hk0 => by
        obtain ⟨b2, o2, y2, u2, _, _, e1, _, e2, _, _, e3, _⟩ := (HS.out.below (HB.out.mono hn)).elem (i := k - 1) (by omega)
        cases e1
        rw [hp] at e2
        cases e2
        exact e3
      have HPR := Lib.hid hprev
      clear HS HZ hprev
      go_wp2
      go_cut [65] from 10 to 65 (fun v65 wx => v65 = .bool (!tst) ∧ Below wr.heap.size wr wx)
      case first =>
        clear HSK HST HR HB
        have f0 := fun d os => cell_regrown hc0 d os
        have f1 := fun d os => cell_regrown hc1 d os
        have f2 := fun d os => cell_regrown hc2 d os
        refine wp_region_wq (by kernel_rfl) (by kernel_rfl) ?_
        by_cases q1 : x < 0
        · clear HPR HTST
          repeat (first
            | (refine WQ.skip (by rfl) ?_; simp only [Act.put, List.setIfInBounds_toArray, List.set_cons_succ, List.set_cons_zero])
            | (apply WQ.two (by rfl); (intro w' hw'; obtain ⟨pq, rfl⟩ := hw'; go_simp; first | (with_reducible exact Calls.regrown_of (C1.out _ (below_regrown _ _ _))) | exact rfl); simp only [Act.put, List.setIfInBounds_toArray, List.set_cons_succ, List.set_cons_zero]))
          refine WQ.nil ?_
          intro _ hw'
          obtain ⟨⟨dq, osq⟩, hw''⟩ := hw'
          subst hw''
          go_wp2
          go_meet
          exact ⟨by rw [htst]; rw [decide_eq_false (show ¬ z ≤ x from by omega)]; simp, below_regrown wr dq osq⟩
        by_cases q2 : 255 < x
        · clear HPR HTST
          repeat (first
            | (refine WQ.skip (by rfl) ?_; simp only [Act.put, List.setIfInBounds_toArray, List.set_cons_succ, List.set_cons_zero])
            | (apply WQ.two (by rfl); (intro w' hw'; obtain ⟨pq, rfl⟩ := hw'; go_simp; first | (with_reducible exact Calls.regrown_of (C1.out _ (below_regrown _ _ _))) | exact rfl); simp only [Act.put, List.setIfInBounds_toArray, List.set_cons_succ, List.set_cons_zero]))
          refine WQ.nil ?_
          intro _ hw'
          obtain ⟨⟨dq, osq⟩, hw''⟩ := hw'
          subst hw''
          go_wp2
          go_meet
          exact ⟨by rw [htst]; rw [decide_eq_false (show ¬ x ≤ 255 from by omega)]; simp, below_regrown wr dq osq⟩
        rcases hpr with ⟨rfl, rfl⟩ | ⟨y, u, hkp, hprev, rfl, hy0, hy1⟩
        · clear HPR HTST f0 f1 f2
          simp only [Nat.zero_mul, Nat.add_zero] at hc0 hc1 hc2
          have hk2 : (0 : Int) < (s.length : Int) := by simpa using hk1
          have hk3 : 0 < s.length := hlt
          have hwx := IntWalk.i64_in (-1 - x) ⟨by omega, by omega⟩
          have f0 := fun d os => cell_regrown hc0 d os
          have f1 := fun d os => cell_regrown hc1 d os
          have f2 := fun d os => cell_regrown hc2 d os
          by_cases q4 : t.check = 0
          · rw [decide_eq_true q4] at C1
            by_cases q5 : t.head = -1 - x
            · have q5b : (t.head == -1 - x) = true := by simpa using q5
              have Q5 := Lib.hid q5
              clear q5
              repeat (first
                | (refine WQ.skip (by rfl) ?_; simp only [Act.put, List.setIfInBounds_toArray, List.set_cons_succ, List.set_cons_zero])
                | (apply WQ.two (by rfl); (intro w' hw'; obtain ⟨pq, rfl⟩ := hw'; go_simp; first | (with_reducible exact Calls.regrown_of (C1.out _ (below_regrown _ _ _))) | exact rfl); simp only [Act.put, List.setIfInBounds_toArray, List.set_cons_succ, List.set_cons_zero]))
              refine WQ.nil ?_
              intro _ hw'
              obtain ⟨⟨dq, osq⟩, hw''⟩ := hw'
              subst hw''
              go_wp2
              go_meet
              exact ⟨by rw [htst]; rw [decide_eq_false (show ¬ t.head ≠ -1 - x from fun h => h Q5.out)]; simp, below_regrown wr dq osq⟩
            · have q5b : (t.head == -1 - x) = false := by simpa using q5
              repeat (first
                | (refine WQ.skip (by rfl) ?_; simp only [Act.put, List.setIfInBounds_toArray, List.set_cons_succ, List.set_cons_zero])
                | (apply WQ.two (by rfl); (intro w' hw'; obtain ⟨pq, rfl⟩ := hw'; go_simp; first | (with_reducible exact Calls.regrown_of (C1.out _ (below_regrown _ _ _))) | exact rfl); simp only [Act.put, List.setIfInBounds_toArray, List.set_cons_succ, List.set_cons_zero]))
              refine WQ.nil ?_
              intro _ hw'
              obtain ⟨⟨dq, osq⟩, hw''⟩ := hw'
              subst hw''
              go_wp2
              go_meet
              exact ⟨by rw [htst]; rw [decide_eq_true (show 0 ≤ x from by omega), decide_eq_true (show x ≤ 255 from by omega), decide_eq_true q4, decide_eq_true (show t.head ≠ -1 - x from q5)]; simp, below_regrown wr dq osq⟩
          · rw [decide_eq_false q4] at C1
            repeat (first
              | (refine WQ.skip (by rfl) ?_; simp only [Act.put, List.setIfInBounds_toArray, List.set_cons_succ, List.set_cons_zero])
              | (apply WQ.two (by rfl); (intro w' hw'; obtain ⟨pq, rfl⟩ := hw'; go_simp; first | (with_reducible exact Calls.regrown_of (C1.out _ (below_regrown _ _ _))) | exact rfl); simp only [Act.put, List.setIfInBounds_toArray, List.set_cons_succ, List.set_cons_zero]))
            refine WQ.nil ?_
            intro _ hw'
            obtain ⟨⟨dq, osq⟩, hw''⟩ := hw'
            subst hw''
            go_wp2
            go_meet
            exact ⟨by rw [htst]; rw [decide_eq_false q4]; simp, below_regrown wr dq osq⟩
        · have hcp := HPR.out y u hprev hkp
          obtain ⟨k', rfl⟩ : ∃ k', k = k' + 1 := ⟨k - 1, by omega⟩
          rw [Nat.add_sub_cancel] at hcp
          have hk' : (0 : Int) ≤ (k' : Int) := Int.natCast_nonneg _
          have hkl : (k' : Int) < (s.length : Int) := by omega
          have hgt : (0 : Int) < (k' : Int) + 1 := by omega
          have hi0 : (0 : Int) ≤ (k' : Int) + 1 := by omega
          have hi1 : (k' : Int) + 1 < (s.length : Int) := by omega
          have hwx := IntWalk.i64_in (-1 - x) ⟨by omega, by omega⟩
          have hwk := IntWalk.i64_in (k' : Int) ⟨by omega, by omega⟩
          have f3 := fun d os => cell_regrown hcp d os
          clear hprev hkp HPR HTST
          by_cases q3 : x ≤ y
          · skip
            repeat (first
              | (refine WQ.skip (by rfl) ?_; simp only [Act.put, List.setIfInBounds_toArray, List.set_cons_succ, List.set_cons_zero])
              | (apply WQ.two (by rfl); (intro w' hw'; obtain ⟨pq, rfl⟩ := hw'; go_simp; first | (with_reducible exact Calls.regrown_of (C1.out _ (below_regrown _ _ _))) | exact rfl); simp only [Act.put, List.setIfInBounds_toArray, List.set_cons_succ, List.set_cons_zero]))
            refine WQ.nil ?_
            intro _ hw'
            obtain ⟨⟨dq, osq⟩, hw''⟩ := hw'
            subst hw''
            go_wp2
            go_meet
            exact ⟨by rw [htst]; rw [decide_eq_false (show ¬ y + 1 ≤ x from by omega)]; simp, below_regrown wr dq osq⟩
          by_cases q4 : t.check = 0
          · rw [decide_eq_true q4] at C1
            by_cases q5 : t.head = -1 - x
            · have q5b : (t.head == -1 - x) = true := by simpa using q5
              have Q5 := Lib.hid q5
              clear q5
              repeat (first
                | (refine WQ.skip (by rfl) ?_; simp only [Act.put, List.setIfInBounds_toArray, List.set_cons_succ, List.set_cons_zero])
                | (apply WQ.two (by rfl); (intro w' hw'; obtain ⟨pq, rfl⟩ := hw'; go_simp; first | (with_reducible exact Calls.regrown_of (C1.out _ (below_regrown _ _ _))) | exact rfl); simp only [Act.put, List.setIfInBounds_toArray, List.set_cons_succ, List.set_cons_zero]))
              refine WQ.nil ?_
              intro _ hw'
              obtain ⟨⟨dq, osq⟩, hw''⟩ := hw'
              subst hw''
              go_wp2
              go_meet
              exact ⟨by rw [htst]; rw [decide_eq_false (show ¬ t.head ≠ -1 - x from fun h => h Q5.out)]; simp, below_regrown wr dq osq⟩
            · have q5b : (t.head == -1 - x) = false := by simpa using q5
              repeat (first
                | (refine WQ.skip (by rfl) ?_; simp only [Act.put, List.setIfInBounds_toArray, List.set_cons_succ, List.set_cons_zero])
                | (apply WQ.two (by rfl); (intro w' hw'; obtain ⟨pq, rfl⟩ := hw'; go_simp; first | (with_reducible exact Calls.regrown_of (C1.out _ (below_regrown _ _ _))) | exact rfl); simp only [Act.put, List.setIfInBounds_toArray, List.set_cons_succ, List.set_cons_zero]))
              refine WQ.nil ?_
              intro _ hw'
              obtain ⟨⟨dq, osq⟩, hw''⟩ := hw'
              subst hw''
              go_wp2
              go_meet
              exact ⟨by rw [htst]; rw [decide_eq_true (show y + 1 ≤ x from by omega), decide_eq_true (show x ≤ 255 from by omega), decide_eq_true q4, decide_eq_true (show t.head ≠ -1 - x from q5)]; simp, below_regrown wr dq osq⟩
          · rw [decide_eq_false q4] at C1
            repeat (first
              | (refine WQ.skip (by rfl) ?_; simp only [Act.put, List.setIfInBounds_toArray, List.set_cons_succ, List.set_cons_zero])
              | (apply WQ.two (by rfl); (intro w' hw'; obtain ⟨pq, rfl⟩ := hw'; go_simp; first | (with_reducible exact Calls.regrown_of (C1.out _ (below_regrown _ _ _))) | exact rfl); simp only [Act.put, List.setIfInBounds_toArray, List.set_cons_succ, List.set_cons_zero]))
            refine WQ.nil ?_
            intro _ hw'
            obtain ⟨⟨dq, osq⟩, hw''⟩ := hw'
            subst hw''
            go_wp2
            go_meet
            exact ⟨by rw [htst]; rw [decide_eq_false q4]; simp, below_regrown wr dq osq⟩
      case rest =>
        obtain ⟨rfl, hbx⟩ := hcut
        have HBX := Lib.hid (HB.out.trans (hbx.mono HB.out.size))
        clear hbx
        cases tst
        · have hd : rightS 0 s = false := by rw [HR.out, HST.out, ← HTST.out]; rfl
          go_wp2
          go_ret
          exact ⟨by first | (rw [hd]; rfl) | rfl, HBX.out⟩
        · have hq := HTST.out
          simp only [Bool.true_eq, Bool.and_eq_true, decide_eq_true_iff] at hq
          have HQ := Lib.hid hq
          have hst := HST.out
          rw [← HTST.out] at hst
          have HST' := Lib.hid hst
          clear hq hst
          go_wp2
          go_roundw
          case rel =>
            have hq := HQ.out
            refine ⟨k + 1, x + 1, by omega, by go_num, .inr ⟨x, t, by omega, by simpa using HSK.out, rfl, by omega, by omega⟩, ?_, HBX.out⟩
            rw [HR.out, HST'.out]
            rfl
          case measure => simp [intOf]; omega
    · have hd : rightS 0 s = true := by rw [HR.out, List.drop_of_length_le (by omega)]; rfl
      go_wp2
      go_ret
      exact ⟨by first | (rw [hd]; rfl) | rfl, HB.out⟩

end Go.Proofs.Ytleohdddaadbeaa

/- Contract of the document's Apply of literals. -/
namespace Go.Proofs.Ytleohdddaadbeaa
set_option linter.unusedVariables false
set_option linter.unusedSimpArgs false
open Go.RowKit

set_option maxRecDepth 100000 in
set_option maxHeartbeats 8000000 in
theorem rLitApply_any (s : Sb) (hsz : ∀ x ∈ s, x.2.size ≤ 1000000000000) (x : LV) (hx : x.sz) (n₀ : Nat) (a : Option Addr) (c : Nat) (w : World) (hn : n₀ ≤ w.heap.size) (hS : IsBs n₀ w s a c) (hX : IsLv n₀ w x) :
    Calls Try.prog 11 #[.slice a s.length c, x.v] w (LePost (apN s x) (apL s x) (apR s x) (apK s x) w) := by
  have hS0 := hS.mono hn
  have hX0 := hX.mono hn
  have C1 := Lib.hid (fun (W : World) (hW : Below w.heap.size w W) => refApplyF_any refRightS_any s hsz x.l hx.1 w.heap.size a c x.pa x.ca W hW.size (hS0.below hW) hX0.lw (hX0.below hW).la)
  have C2 := Lib.hid (fun (W : World) (hW : Below w.heap.size w W) => refApplyF_any refRightS_any s hsz x.r hx.2 w.heap.size a c x.pb x.cb W hW.size (hS0.below hW) hX0.rw (hX0.below hW).ra)
  have d0 := ((Later.below (Below.refl _ w)).pushB (Below.refl _ _) x).pushB (Below.refl _ _) LV.zero
  simp only [heap_alloc_size] at d0
  have D := Lib.hid d0
  clear d0 hS hX hS0 hX0 hsz hx
  have hs1 : ((w.alloc x.obj).alloc LV.zero.obj).heap.size = w.heap.size + 2 := by simp
  obtain ⟨w1, hw1⟩ : ∃ w1, (w.alloc x.obj).alloc LV.zero.obj = w1 := ⟨_, rfl⟩
  rw [hw1] at D hs1
  have hw1' : (w.alloc x.obj).alloc (.cells #[.bool false, .int .i64 0, .slice none 0 0, .int .i64 0, .slice none 0 0] 27) = w1 := hw1
  have HW1 := Lib.hid hw1'
  clear hw1 hw1'
  go_enter Try.func11, Try.ntmps11
  go_wp2_with fail
  rw [HW1.out]
  clear HW1
  refine (C1.out w1 D.out.now.2.2).mono ?_
  rintro e w2 ⟨a2, c2, rfl, hwf2, hA2, hb2⟩
  have hs2 := hb2.size
  obtain ⟨w3, hw3⟩ : ∃ w3, w2.alloc (tmCells (appT s x.l).head a2 (appT s x.l).args.length c2) = w3 := ⟨_, rfl⟩
  have hb3 : Below w2.heap.size w2 w3 := by rw [← hw3]; exact (Below.refl _ _).alloc (Nat.le_refl _) _
  have hs3 := hb3.size
  have d3 := (D.out.mv hb2).push (Below.refl _ _) (appT s x.l).head a2 (appT s x.l).args.length c2
  rw [hw3] at d3
  have D3 := Lib.hid d3
  have KA := Lib.hid ((kne_of (b0 := w.heap.size + 1) hA2 (by omega) (by omega)).mv hb3)
  have HWF2 := Lib.hid hwf2
  clear d3 hb2 hb3 hA2 hwf2 D C1
  by_cases h1 : appE s x.l = 0
  case neg =>
    obtain ⟨k, hk⟩ : ∃ k, appE s x.l = k := ⟨_, rfl⟩
    have HE := Lib.hid (ap_bad (s := s) (x := x) (k := k) (by unfold apK; rw [if_neg h1]; exact hk) (by rw [← hk]; exact h1))
    have HQ := Lib.hid D3.out.now.2.2.2
    have hz := D3.out.now.2.1
    obtain ⟨z0, z1, z2, z3, z4⟩ := hz.lc
    obtain ⟨q0, q1, q2, q3, q4⟩ := hz.lf
    simp only [LV.zero, T.head, T.args, List.length_nil] at z0 z1 z2 z3 z4
    clear hz
    rw [hk] at h1 ⊢
    have h2 : (k != 0) = true := by simpa using h1
    clear h1 hk D3 KA
    go_wp2
    refine bodyPost_ret (v := .tuple #[LV.zero.v, .int .i64 k]) (by simp [results, Try.results11, go_sem, z0, z1, z2, z3, z4, LV.zero, T.head, T.args]) rfl ?_
    exact ⟨LV.zero, by rw [HE.out.2.2.2], HE.out.1.symm, HE.out.2.1.symm, HE.out.2.2.1.symm, lv_zero _ _, bl_sets HQ.out (by omega) _ _ _ _ _⟩
  have H1 := Lib.hid h1
  rw [h1]
  clear h1
  obtain ⟨x0, x1, x2, x3, x4⟩ := D3.out.now.2.2.1.lc
  go_wp2_with fail
  clear x0 x1 x2 x3 x4
  refine (C2.out w3 D3.out.now.2.2.2).mono ?_
  rintro e w4 ⟨a4, c4, rfl, hwf4, hA4, hb4⟩
  have hs4 := hb4.size
  obtain ⟨w5, hw5⟩ : ∃ w5, w4.alloc (tmCells (appT s x.r).head a4 (appT s x.r).args.length c4) = w5 := ⟨_, rfl⟩
  have hb5 : Below w4.heap.size w4 w5 := by rw [← hw5]; exact (Below.refl _ _).alloc (Nat.le_refl _) _
  have hs5 := hb5.size
  have d5 := (D3.out.mv hb4).push (Below.refl _ _) (appT s x.r).head a4 (appT s x.r).args.length c4
  rw [hw5] at d5
  have D5 := Lib.hid d5
  have KB := Lib.hid ((kne_of (b0 := w.heap.size + 1) hA4 (by omega) (by omega)).mv hb5)
  have KA5 := Lib.hid ((KA.out.mv hb4).mv hb5)
  have HWF4 := Lib.hid hwf4
  clear d5 hb4 hb5 hA4 hwf4 D3 C2 KA hw3
  have hz := D5.out.now.2.2.1
  have hxx := D5.out.now.2.2.2.1
  obtain ⟨z0, z1, z2, z3, z4⟩ := hz.lc
  obtain ⟨q0, q1, q2, q3, q4⟩ := hz.lf
  simp only [LV.zero, T.head, T.args, List.length_nil] at z0 z1 z2 z3 z4
  have HQ := Lib.hid D5.out.now.2.2.2.2
  by_cases h2 : appE s x.r = 0
  case neg =>
    obtain ⟨k, hk⟩ : ∃ k, appE s x.r = k := ⟨_, rfl⟩
    have HE := Lib.hid (ap_bad (s := s) (x := x) (k := k) (by unfold apK; rw [if_pos H1.out]; exact hk) (by rw [← hk]; exact h2))
    clear hz hxx
    rw [hk] at h2 ⊢
    have h3 : (k != 0) = true := by simpa using h2
    clear h2 hk D5 KB KA5
    go_wp2
    refine bodyPost_ret (v := .tuple #[LV.zero.v, .int .i64 k]) (by simp [results, Try.results11, go_sem, z0, z1, z2, z3, z4, LV.zero, T.head, T.args]) rfl ?_
    exact ⟨LV.zero, by rw [HE.out.2.2.2], HE.out.1.symm, HE.out.2.1.symm, HE.out.2.2.1.symm, lv_zero _ _, bl_sets HQ.out (by omega) _ _ _ _ _⟩
  have HE := Lib.hid (ap_ok (s := s) (x := x) (by unfold apK; rw [if_pos H1.out]; exact h2))
  rw [h2]
  clear h2
  obtain ⟨x0, _, _, _, _⟩ := hxx.lc
  obtain ⟨⟨u0, u1⟩, ⟨v0, v1⟩, _⟩ := D5.out.now
  clear hz hxx D5
  generalize appT s x.l = y1 at HE HWF2 KA5 v0 v1 ⊢
  generalize appT s x.r = y2 at HE HWF4 KB u0 u1 hw5 ⊢
  go_wp2
  refine bodyPost_ret (v := .tuple #[(LV.mk x.n y1 y2 a2 c2 a4 c4).v, .int .i64 0]) (by simp [results, Try.results11, go_sem, z0, z1, z2, z3, z4]) rfl ?_
  exact ⟨LV.mk x.n y1 y2 a2 c2 a4 c4, by rw [HE.out.2.2.2], HE.out.1.symm, HE.out.2.1.symm, HE.out.2.2.1.symm, ⟨HWF2.out, HWF4.out, KA5.out.sets _ _ _ _ _, KB.out.sets _ _ _ _ _⟩, bl_sets HQ.out (by omega) _ _ _ _ _⟩

end Go.Proofs.Ytleohdddaadbeaa
