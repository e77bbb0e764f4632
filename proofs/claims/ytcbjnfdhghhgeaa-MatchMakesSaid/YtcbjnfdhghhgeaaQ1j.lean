/- Q1j: joined of RSm, Law. -/
import Derived.Test.YtcbjnfdhghhgeaaQ1f
import Derived.Test.YtcbjnfdhghhgeaaLeaf
import Derived.Lib.QuietBelow
import Derived.Test.YtcbjnfdhghhgeaaQ1c
import Derived.Deep.CutRange
import Derived.Test.YtcbjnfdhghhgeaaRows
import Derived.ProofKit
import Derived.OpenShut
import Derived.Carry
import Derived.Lib.SmallJoins
/- RSm: joined of Qt, RSm. -/
/- Steps through a region that only reads: what follows is shut in a structure, so that nothing unfolds it. -/
namespace Go.Proofs.Ytcbjnfdhghhgeaa
set_option linter.unusedVariables false
set_option linter.unusedSimpArgs false
open Go.RowKit Go.Sort

/-- The rest of the lexical walk, shut. -/
structure WQ (P : Program) (ops : Array Oper) (C : World → Prop) (Q : Act → Prop) (l : List Oper) (a : Act) : Prop where
  out : wpQuiet P ops C Q l a
section
variable {P : Program} {ops : Array Oper} {C : World → Prop} {Q : Act → Prop} {a : Act} {o : Oper} {rest : List Oper}
theorem WQ.nil (h : Q a) : WQ P ops C Q [] a := ⟨wpQuiet_nil h⟩
theorem WQ.skip (hw : Region.wanted o (yielded ops a.tmps) = false) (h : WQ P ops C Q rest (a.put o.dst undef)) : WQ P ops C Q (o :: rest) a := by
  refine ⟨?_⟩
  unfold wpQuiet
  rw [hw]
  exact h.out
theorem WQ.two {v : Value} (hw : Region.wanted o (yielded ops a.tmps) = true) (h : ∀ w, C w → o.quietAt P a C w v) (hr : WQ P ops C Q rest (a.put o.dst v)) : WQ P ops C Q (o :: rest) a := by
  refine ⟨?_⟩
  unfold wpQuiet
  rw [hw]
  exact ⟨v, h, hr.out⟩
end
theorem wp_region_wq {P : Program} {id : Nat} {Q : Exit → Act → World → Prop} {a : Act} {w : World} {l : List Oper} (hm : P.follows .mixedOrders = true) (hB : Region.lexB .any l.toArray = true)
    (h : WQ P l.toArray (fun w' => ∃ p : Regrown, w' = grow (redrawn w p.d) p.os) (fun a' => ∀ w', (∃ p : Regrown, w' = grow (redrawn w p.d) p.os) → Q .normal a' w') l a) : (Code.region id l.toArray true).wp P Q a w :=
  wp_region_quiet_below hm hB h.out

end Go.Proofs.Ytcbjnfdhghhgeaa

/- Contract of the reference's Same of substitutions, at two that are the same. -/
namespace Go.Proofs.Ytcbjnfdhghhgeaa
set_option linter.unusedVariables false
set_option linter.unusedSimpArgs false
open Go.RowKit Go.Sort

def SmI (n : Nat) (w : World) (i : Value) (wr : World) : Prop := ∃ k : Nat, k ≤ n ∧ i = .int .i64 k ∧ Below w.heap.size w wr

set_option maxRecDepth 100000 in
set_option maxHeartbeats 4000000 in
theorem sameS_any (s : Sb) (hsz : ∀ x ∈ s, x.2.size ≤ 1000000000000) (n₀ : Nat) (a : Option Addr) (c : Nat) (a' : Option Addr) (c' : Nat) (w : World) (hn : n₀ ≤ w.heap.size) (hS : IsBs n₀ w s a c) (hU : IsBs n₀ w s a' c') :
    Calls Try.prog 25 #[.slice a s.length c, .slice a' s.length c'] w fun e w' => e = .returned (.bool true) ∧ Below w.heap.size w w' := by
  have hl : s.length ≤ c ∧ c ≤ maxLen := ⟨hS.1, hS.2.1⟩
  have hl' : s.length ≤ c' ∧ c' ≤ maxLen := ⟨hU.1, hU.2.1⟩
  unfold maxLen at hl hl'
  obtain ⟨hl1, hl2⟩ := hl
  obtain ⟨hl3, hl4⟩ := hl'
  have HS := Lib.hid hS
  have HU := Lib.hid hU
  have HZ := Lib.hid hsz
  clear hS hU hsz
  go_enter Try.func25, Try.ntmps25
  go_wp2
  go_loopw [5] (fun i wr => SmI s.length w i wr) (fun i _ => s.length - (intOf i).toNat)
  case atStart => exact ⟨0, Nat.zero_le _, rfl, Below.refl _ _⟩
  case round =>
    obtain ⟨k, hk, rfl, hB⟩ := hrel
    have HB := Lib.hid hB
    have hbz := hB.size
    clear hB
    by_cases hlt : k < s.length
    · obtain ⟨b, o, x, t, a1, c1, rfl, hbn, hsk, hxw, htw, hc0, hc1, hc2, hA1⟩ := (HS.out.below (HB.out.mono hn)).elem (i := k) hlt
      obtain ⟨b', o', x', t', a2, c2, rfl, hbn', hsk', hxw', htw', hd0, hd1, hd2, hA2⟩ := (HU.out.below (HB.out.mono hn)).elem (i := k) hlt
      rw [hsk] at hsk'
      simp only [Option.some.injEq, Prod.mk.injEq] at hsk'
      obtain ⟨rfl, rfl⟩ := hsk'
      have hk0 : (0 : Int) ≤ (k : Int) := Int.natCast_nonneg _
      have hk1 : (k : Int) < (s.length : Int) := by omega
      have hts : t.size ≤ 1000000000000 := HZ.out (x, t) (List.mem_of_getElem? hsk)
      have hbw : b < wr.heap.size := by omega
      have hbw' : b' < wr.heap.size := by omega
      have hnw : n₀ ≤ wr.heap.size := by omega
      have C1 := Lib.hid (show ∀ W, Below wr.heap.size wr W → Calls Try.prog 19 #[tm t.head a1 t.args.length c1, tm t.head a2 t.args.length c2] W fun e w' => e = .returned (.bool true) ∧ Below W.heap.size W w' from fun W hW => sameAt_any t t rfl hts n₀ a1 c1 a2 c2 W (Nat.le_trans hnw hW.size) (hA1.below (hW.mono hnw)) (hA2.below (hW.mono hnw)))
      clear hsk hxw htw hxw' htw' hA1 hA2 HS HU HZ
      go_wp2
      go_cut [41] from 17 to 41 (fun v41 wx => v41 = .bool false ∧ Below wr.heap.size wr wx)
      case first =>
        have f0 := fun d os => cell_regrown hc0 d os
        have f1 := fun d os => cell_regrown hc1 d os
        have f2 := fun d os => cell_regrown hc2 d os
        have g0 := fun d os => cell_regrown hd0 d os
        have g1 := fun d os => cell_regrown hd1 d os
        have g2 := fun d os => cell_regrown hd2 d os
        clear HB
        refine wp_region_wq (by kernel_rfl) (by kernel_rfl) ?_
        repeat (first
          | (refine WQ.skip (by rfl) ?_; simp only [Act.put, List.setIfInBounds_toArray, List.set_cons_succ, List.set_cons_zero])
          | (apply WQ.two (by rfl); (intro w' hw'; obtain ⟨pq, rfl⟩ := hw'; go_simp; first | (with_reducible exact Calls.regrown_of (C1.out _ (below_regrown _ _ _))) | exact rfl); simp only [Act.put, List.setIfInBounds_toArray, List.set_cons_succ, List.set_cons_zero]))
        refine WQ.nil ?_
        intro _ hw'
        obtain ⟨⟨dq, osq⟩, hw''⟩ := hw'
        subst hw''
        go_wp2
        go_meet
        exact ⟨by simp, below_regrown wr dq osq⟩
      case rest =>
        obtain ⟨rfl, hbx⟩ := hcut
        have HBX := Lib.hid (HB.out.trans (hbx.mono HB.out.size))
        clear hbx
        go_wp2
        go_roundw
        case rel => exact ⟨k + 1, by omega, by go_num, HBX.out⟩
        case measure => simp [intOf]; omega
    · go_wp2
      go_ret
      exact ⟨rfl, HB.out⟩

end Go.Proofs.Ytcbjnfdhghhgeaa

/- Reading terms out of memory; and how the walk of a law becomes its row. -/
namespace Go.Proofs.Ytcbjnfdhghhgeaa
set_option linter.unusedVariables false
set_option linter.unusedSimpArgs false
set_option maxRecDepth 100000
open Go.ChangeShapes Go.WideShapes Go.ChangeAt Go.RowKit Go.Joins

theorem own : ownKnob Try.prog.godebug = none := by kernel_rfl
theorem laid : laidOutB Try.prog = true := by kernel_rfl
theorem cellsTerm : Try.prog.cellsOf 25 = 2 := by kernel_rfl
theorem cellsInt : Try.prog.cellsOf 3 = 1 := by kernel_rfl
theorem cellsTerms : Try.prog.cellsOf 23 = 1 := by kernel_rfl

/-! ### From the walk to the row -/
section
variable {H : Type} {enc : TypeId × Value → H} {P : Program}

/-- Arguments that lie below the old end of the heap read as they did. -/
theorem trodAll_later (hl : laidOutB P = true) {W W' : World} (hb : Below W.heap.size W W') : ∀ {ts : List TypeId} {vs : List Value} {ds : List (DataW H)} {ps : List MemPlace},
    (∀ t ∈ ts, P.readableRec t = true ∧ t < P.types.size) → (∀ x ∈ ps, x.block < W.heap.size) → DataW.TrodAll enc P W 0 (fun _ => true) true ts vs ds ps → DataW.TrodAll enc P W' 0 (fun b => decide (b < W.heap.size)) true ts vs ds ps
  | [], [], [], _, _, _, h => h
  | t :: _, _ :: _, _ :: _, _, ht, hlt, ⟨p, q, h1, h2, e⟩ => by
    obtain ⟨r1, r2⟩ := ht t (List.mem_cons.2 (Or.inl rfl))
    exact ⟨p, q, Below.trod hl r1 r2 h1 hb (fun x hx => hlt x (by rw [e]; exact List.mem_append_left _ hx)),
      trodAll_later hl hb (fun t ht' => ht t (List.mem_cons.2 (Or.inr ht'))) (fun x hx => hlt x (by rw [e]; exact List.mem_append_right _ hx)) h2, e⟩

/-- A law that returns true, and under which the old memory stays: what its row asks behind the call. -/
theorem post_law (hl : laidOutB P = true) {f : Func} {s : ChangeSpec} {W W' : World} {args : Array Value} {ds gs : List (DataW H)} {before : List MemPlace} {tb : TypeId} {apart fresh handsOn : Bool}
    (hu : P.underlying tb = some .bool) (hr : f.resultTypes = #[tb]) (hv : s.vars = [])
    (hp : ∀ t ∈ f.params.toList, P.readableRec t = true ∧ t < P.types.size)
    (hfn : ∀ gs : List (DataW H), gs = [] → s.fn H (ds ++ gs) = { results := [.lit (.bool true)], args := ds })
    (hW : DataW.Whole enc P f.params.toList s.vars apart W args.toList ds gs before) (hb : Below W.heap.size W W') :
    s.post enc P f apart fresh handsOn false W args (.bool true) W' := by
  have hW' := hW
  obtain ⟨p, q, hA, hV, rfl, _, _⟩ := hW
  rw [hv] at hV
  obtain ⟨rfl, rfl⟩ := trodVars_none hV
  have e := hfn [] rfl
  refine ⟨ds, [], p ++ [], [], p, [], hW', ?_, ?_, ?_, hb.frame _, fun h => by cases h⟩
  · rw [e, hr]
    exact trodAll_cons_mk (p := []) (p' := []) (shut_bool hu true) trodAll_mk0
  · rw [e]
    exact trodAll_later hl hb hp (fun x hx => by simpa using hW'.lt x (List.mem_append_left _ hx)) hA
  · rw [e, hv]; rfl
end

/-! ### A term that reads as data lies in memory as a term -/
theorem isRow_of {n₀ : Nat} {w : World} {b : Nat} : ∀ (n : Nat) (o : Nat), (∀ i, i < n → ∃ t, IsT n₀ w t b (o + i * 2)) → ∃ ts : List T, ts.length = n ∧ IsRow n₀ w ts b o := by
  intro n
  induction n with
  | zero => intro o _; exact ⟨[], rfl, trivial⟩
  | succ n ih =>
    intro o h
    obtain ⟨t, ht⟩ := h 0 (by omega)
    obtain ⟨ts, hl, hr⟩ := ih (o + 2) (fun i hi => by
      obtain ⟨s, hs⟩ := h (i + 1) (by omega)
      exact ⟨s, by rw [show o + 2 + i * 2 = o + (i + 1) * 2 from by omega]; exact hs⟩)
    exact ⟨t :: ts, by simp [hl], by simp only [IsRow]; exact ⟨by simpa using ht, hr⟩⟩

theorem add_none (b o k : Nat) : (⟨b, o, none⟩ : Addr).add k = ⟨b, o + k, none⟩ := by
  unfold Addr.add; split <;> simp_all

theorem lt_of_cell {w : World} {b o : Nat} {v : Value} (h : w.cell? ⟨b, o, none⟩ = some v) : b < w.heap.size := by
  unfold World.cell? at h
  cases hh : w.heap[b]? with
  | none => simp [hh] at h
  | some x => exact (Array.getElem?_eq_some_iff.1 hh).1

section
variable {H : Type} {enc : TypeId × Value → H} {w : World} {sp : Nat → Bool} {hd : Bool}

theorem trod_terms : ∀ (n : Nat),
    (∀ {cs : List Value} {x : DataW H × List MemPlace}, DataW.trod enc Try.prog w 0 sp hd n 25 cs = some x → ∃ (t : T) (a : Option Addr) (c : Nat), cs = [.int .i64 t.head, .slice a t.args.length c] ∧ (Lit.int .i64 t.head).wf = true ∧ IsArgs w.heap.size w t.args a c) ∧
    (∀ {cs : List Value} {x : DataW H × List MemPlace}, DataW.trod enc Try.prog w 0 sp hd n 23 cs = some x → ∃ (ts : List T) (a : Option Addr) (c : Nat), cs = [.slice a ts.length c] ∧ IsArgs w.heap.size w ts a c) := by
  intro n
  induction n with
  | zero => exact ⟨fun h => by simp [DataW.trod] at h, fun h => by simp [DataW.trod] at h⟩
  | succ n ih =>
    obtain ⟨ih1, ih2⟩ := ih
    constructor
    · intro cs x h
      obtain ⟨xs, m, hm, _, hl, hxs, hf⟩ := DataW.trod_struct Try.underlying25 h
      obtain rfl : n = m := by omega
      rw [cellsTerm] at hl
      match cs, hl with
      | [c0, c1], _ =>
        match xs, hxs with
        | [y0, y1], _ =>
          have h0 := hf 0 _ rfl
          have h1 := hf 1 _ rfl
          simp [cellsInt, cellsTerms] at h0 h1
          obtain ⟨k, e0, _, wf⟩ := DataW.trod_int Try.underlying3 h0
          obtain ⟨ts, a, c, e1, hA⟩ := ih2 h1
          simp at e0 e1
          subst e0 e1
          exact ⟨.node k ts, a, c, rfl, wf, hA⟩
    · intro cs x h
      rcases DataW.trod_slice Try.underlying23 h with ⟨rfl, _⟩ | ⟨a, len, cap, elems, rest, m, hm, rfl, _, _, hlc, hcm, hel, hcell, _, _⟩
      · exact ⟨[], none, 0, rfl, ⟨Nat.le_refl _, by simp [maxLen], .inl rfl⟩⟩
      · obtain rfl : n = m := by omega
        cases len with
        | zero => exact ⟨[], some a, cap, rfl, ⟨hlc, hcm, .inl rfl⟩⟩
        | succ len =>
          have each : ∀ i, i < len + 1 → ∃ (t : T) (a' : Option Addr) (c : Nat), w.cell? ((a.add (i * 2)).add 0) = some (.int .i64 t.head) ∧ w.cell? ((a.add (i * 2)).add 1) = some (.slice a' t.args.length c) ∧ (Lit.int .i64 t.head).wf = true ∧ IsArgs w.heap.size w t.args a' c := by
            intro i hi
            have h1 := hcell i hi
            rw [List.getElem?_eq_getElem (by omega), cellsTerm, Option.bind_eq_some_iff] at h1
            obtain ⟨cs, hcs, ht⟩ := h1
            obtain ⟨t, a', c, rfl, wf, hA⟩ := ih1 ht
            refine ⟨t, a', c, ?_, ?_, wf, hA⟩
            · exact mapM_some_get (by simpa [World.cells?] using hcs) 0 0 rfl
            · exact mapM_some_get (by simpa [World.cells?] using hcs) 1 1 rfl
          obtain ⟨b, o, spot⟩ := a
          have hspot : spot = none := by
            obtain ⟨t, a', c, h1, _⟩ := each 0 (by omega)
            cases spot with
            | none => rfl
            | some k => unfold World.cell? at h1; simp [Addr.add] at h1; split at h1 <;> simp at h1
          subst hspot
          simp only [add_none, Nat.add_zero] at each
          have hlt : b < w.heap.size := by
            obtain ⟨t, a', c, h1, _⟩ := each 0 (by omega)
            exact lt_of_cell h1
          obtain ⟨ts, hts, hrow⟩ := isRow_of (n₀ := w.heap.size) (w := w) (b := b) (len + 1) o (fun i hi => by
            obtain ⟨t, a', c, h1, h2, wf, hA⟩ := each i hi
            exact ⟨t, isT_iff.2 ⟨wf, h1, a', c, h2, hA⟩⟩)
          exact ⟨ts, some ⟨b, o, none⟩, cap, by rw [hts], ⟨by omega, hcm, .inr ⟨b, o, rfl, hlt, hrow⟩⟩⟩

/-- An argument of type Term. -/
theorem open_term {r : Reach} {b0 : Nat} {v : Value} {d : DataW H} {p : List MemPlace} (hv : Value.okWide Try.prog w r b0 25 v) (h : DataW.Trod enc Try.prog w 0 sp hd 25 v d p) :
    ∃ (t : T) (a : Option Addr) (c : Nat), v = tm t.head a t.args.length c ∧ (Lit.int .i64 t.head).wf = true ∧ IsArgs w.heap.size w t.args a c := by
  obtain ⟨cs, rfl, _⟩ := okWide_struct Try.underlying25 hv
  obtain ⟨n, hn⟩ := h
  obtain ⟨t, a, c, e, wf, hA⟩ := (trod_terms n).1 hn
  refine ⟨t, a, c, ?_, wf, hA⟩
  obtain ⟨l⟩ := cs
  simp only [Value.cells] at e
  simp only [tm]
  rw [show l = _ from e]

/-- An argument of type []Term. -/
theorem open_terms {r : Reach} {b0 : Nat} {v : Value} {d : DataW H} {p : List MemPlace} (hv : Value.okWide Try.prog w r b0 23 v) (h : DataW.Trod enc Try.prog w 0 sp hd 23 v d p) :
    ∃ (ts : List T) (a : Option Addr) (c : Nat), v = .slice a ts.length c ∧ IsArgs w.heap.size w ts a c := by
  obtain ⟨a, len, cap, rfl⟩ := okWide_slice Try.underlying23 hv
  obtain ⟨n, hn⟩ := h
  obtain ⟨ts, a', c, e, hA⟩ := (trod_terms n).2 hn
  simp [Value.cells] at e
  obtain ⟨rfl, rfl, rfl⟩ := e
  exact ⟨ts, a, cap, rfl, hA⟩
end

end Go.Proofs.Ytcbjnfdhghhgeaa
