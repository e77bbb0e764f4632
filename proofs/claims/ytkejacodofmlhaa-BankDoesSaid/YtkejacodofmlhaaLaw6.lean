/- Reading scripts of banks out of memory. -/
import Derived.Test.YtkejacodofmlhaaLaw
namespace Go.Proofs.Ytkejacodofmlhaa
set_option linter.unusedVariables false
set_option linter.unusedSimpArgs false
set_option maxRecDepth 100000
open Go.ChangeShapes Go.WideShapes Go.ChangeAt Go.RowKit Go.Joins

/-- A step: what, a term, a number. -/
abbrev Stp := Int × T × Int
def IsSt (n₀ : Nat) (W : World) (x : Stp) (b o : Nat) : Prop := (Lit.int .i64 x.1).wf = true ∧ (Lit.int .i64 x.2.2).wf = true ∧ W.cell? ⟨b, o, none⟩ = some (.int .i64 x.1) ∧ IsT n₀ W x.2.1 b (o + 1) ∧ W.cell? ⟨b, o + 3, none⟩ = some (.int .i64 x.2.2)
def IsSs (n₀ : Nat) (W : World) (s : List Stp) (a : Option Addr) (c : Nat) : Prop :=
  s.length ≤ c ∧ c ≤ maxLen ∧ (s = [] ∨ ∃ b o, a = some ⟨b, o, none⟩ ∧ b < n₀ ∧ ∀ (j : Nat) (x : Stp), s[j]? = some x → IsSt n₀ W x b (o + j * 4))
theorem IsSs.below {n₀ : Nat} {w w' : World} {s : List Stp} {a : Option Addr} {c : Nat} (h : IsSs n₀ w s a c) (hb : Below n₀ w w') : IsSs n₀ w' s a c := by
  obtain ⟨h1, h2, h3⟩ := h
  refine ⟨h1, h2, ?_⟩
  rcases h3 with h3 | ⟨b, o, h4, h5, h6⟩
  · exact .inl h3
  · refine .inr ⟨b, o, h4, h5, fun j x hx => ?_⟩
    obtain ⟨p0, p1, p2, p3, p4⟩ := h6 j x hx
    exact ⟨p0, p1, (hb.cell (p := ⟨b, _, none⟩) h5).trans p2, p3.below hb h5, (hb.cell (p := ⟨b, _, none⟩) h5).trans p4⟩
theorem IsSs.elem {n₀ : Nat} {w : World} {s : List Stp} {a : Option Addr} {c : Nat} (h : IsSs n₀ w s a c) {i : Nat} (hi : i < s.length) :
    ∃ (b o : Nat) (v : Int) (t : T) (d : Int) (a' : Option Addr) (c' : Nat), a = some ⟨b, o, none⟩ ∧ b < n₀ ∧ s[i]? = some (v, t, d) ∧ (Lit.int .i64 v).wf = true ∧ (Lit.int .i64 t.head).wf = true ∧ (Lit.int .i64 d).wf = true ∧ w.cell? ⟨b, o + i * 4, none⟩ = some (.int .i64 v) ∧ w.cell? ⟨b, o + i * 4 + 1, none⟩ = some (.int .i64 t.head) ∧
      w.cell? ⟨b, o + i * 4 + 2, none⟩ = some (.slice a' t.args.length c') ∧ w.cell? ⟨b, o + i * 4 + 3, none⟩ = some (.int .i64 d) ∧ IsArgs n₀ w t.args a' c' := by
  obtain ⟨_, _, h3⟩ := h
  rcases h3 with rfl | ⟨b, o, rfl, h4, h5⟩
  · simp at hi
  · obtain ⟨p0, p1, p2, p3, p4⟩ := h5 i _ (List.getElem?_eq_getElem hi)
    obtain ⟨q0, q1, a', c', q2, q3⟩ := isT_iff.1 p3
    exact ⟨b, o, s[i].1, s[i].2.1, s[i].2.2, a', c', rfl, h4, List.getElem?_eq_getElem hi, p0, q0, p1, p2, q1, q2, p4, q3⟩

theorem cellsStep : Try.prog.cellsOf 36 = 4 := by kernel_rfl

section
variable {H : Type} {enc : TypeId × Value → H} {w : World} {sp : Nat → Bool} {hd : Bool}

theorem trod_step {n : Nat} {cs : List Value} {x : DataW H × List MemPlace} (h : DataW.trod enc Try.prog w 0 sp hd n 36 cs = some x) :
    ∃ (v : Int) (t : T) (d : Int) (a : Option Addr) (c : Nat), cs = [.int .i64 v, .int .i64 t.head, .slice a t.args.length c, .int .i64 d] ∧ (Lit.int .i64 v).wf = true ∧ (Lit.int .i64 d).wf = true ∧ (Lit.int .i64 t.head).wf = true ∧ IsArgs w.heap.size w t.args a c := by
  obtain ⟨xs, m, hm, _, hl, hxs, hf⟩ := DataW.trod_struct Try.underlying36 h
  rw [cellsStep] at hl
  match cs, hl with
  | [c0, c1, c2, c3], _ =>
    match xs, hxs with
    | [y0, y1, y2], _ =>
      have h0 := hf 0 _ rfl
      have h1 := hf 1 _ rfl
      have h2 := hf 2 _ rfl
      simp [cellsInt, cellsTerm] at h0 h1 h2
      obtain ⟨k, e0, _, wf⟩ := DataW.trod_int Try.underlying3 h0
      obtain ⟨t, a, c, e1, wf', hA⟩ := (trod_terms _).1 h1
      obtain ⟨d, e2, _, wf2⟩ := DataW.trod_int Try.underlying3 h2
      simp at e0 e1 e2
      obtain ⟨rfl, rfl⟩ := e1
      subst e0
      subst e2
      exact ⟨k, t, d, a, c, rfl, wf, wf2, wf', hA⟩

theorem trod_steps {n : Nat} {cs : List Value} {x : DataW H × List MemPlace} (h : DataW.trod enc Try.prog w 0 sp hd n 33 cs = some x) : ∃ (s : List Stp) (a : Option Addr) (c : Nat), cs = [.slice a s.length c] ∧ IsSs w.heap.size w s a c := by
  rcases DataW.trod_slice Try.underlying33 h with ⟨rfl, _⟩ | ⟨a, len, cap, elems, rest, m, hm, rfl, _, _, hlc, hcm, hel, hcell, _, _⟩
  · exact ⟨[], none, 0, rfl, ⟨Nat.le_refl _, by simp [maxLen], .inl rfl⟩⟩
  · cases len with
    | zero => exact ⟨[], some a, cap, rfl, ⟨hlc, hcm, .inl rfl⟩⟩
    | succ len =>
      have each : ∀ i, i < len + 1 → ∃ (v : Int) (t : T) (d : Int) (a' : Option Addr) (c : Nat), w.cell? ((a.add (i * 4)).add 0) = some (.int .i64 v) ∧ w.cell? ((a.add (i * 4)).add 1) = some (.int .i64 t.head) ∧ w.cell? ((a.add (i * 4)).add 2) = some (.slice a' t.args.length c) ∧ w.cell? ((a.add (i * 4)).add 3) = some (.int .i64 d) ∧ (Lit.int .i64 v).wf = true ∧ (Lit.int .i64 d).wf = true ∧ (Lit.int .i64 t.head).wf = true ∧ IsArgs w.heap.size w t.args a' c := by
        intro i hi
        have h1 := hcell i hi
        rw [List.getElem?_eq_getElem (by omega), cellsStep, Option.bind_eq_some_iff] at h1
        obtain ⟨cs, hcs, ht⟩ := h1
        obtain ⟨v, t, d, a', c, rfl, wf, wf2, wf', hA⟩ := trod_step ht
        refine ⟨v, t, d, a', c, ?_, ?_, ?_, ?_, wf, wf2, wf', hA⟩
        · exact mapM_some_get (by simpa [World.cells?] using hcs) 0 0 rfl
        · exact mapM_some_get (by simpa [World.cells?] using hcs) 1 1 rfl
        · exact mapM_some_get (by simpa [World.cells?] using hcs) 2 2 rfl
        · exact mapM_some_get (by simpa [World.cells?] using hcs) 3 3 rfl
      obtain ⟨b, o, spot⟩ := a
      have hspot : spot = none := by
        obtain ⟨v, t, d, a', c, h1, _⟩ := each 0 (by omega)
        cases spot with
        | none => rfl
        | some k => unfold World.cell? at h1; simp [Addr.add] at h1; split at h1 <;> simp at h1
      subst hspot
      simp only [add_none, Nat.add_zero] at each
      have hlt : b < w.heap.size := by
        obtain ⟨v, t, d, a', c, h1, _⟩ := each 0 (by omega)
        exact lt_of_cell h1
      have hall : ∀ (n o : Nat), (∀ i, i < n → ∃ x : Stp, IsSt w.heap.size w x b (o + i * 4)) → ∃ s : List Stp, s.length = n ∧ ∀ (j : Nat) (x : Stp), s[j]? = some x → IsSt w.heap.size w x b (o + j * 4) := by
        intro n
        induction n with
        | zero => intro o _; exact ⟨[], rfl, by simp⟩
        | succ n ih =>
          intro o h
          obtain ⟨z, hz⟩ := h 0 (by omega)
          obtain ⟨zs, hl, hr⟩ := ih (o + 4) (fun i hi => by
            obtain ⟨y, hy⟩ := h (i + 1) (by omega)
            exact ⟨y, by rw [show o + 4 + i * 4 = o + (i + 1) * 4 from by omega]; exact hy⟩)
          refine ⟨z :: zs, by simp [hl], fun j y hj => ?_⟩
          cases j with
          | zero => simp at hj; subst hj; simpa using hz
          | succ j => rw [show o + (j + 1) * 4 = o + 4 + j * 4 from by omega]; exact hr j y (by simpa using hj)
      obtain ⟨s, hl, hr⟩ := hall (len + 1) o (fun i hi => by
        obtain ⟨v, t, d, a', c, h0, h1, h2, h3, wf, wf2, wf', hA⟩ := each i hi
        exact ⟨(v, t, d), wf, wf2, h0, isT_iff.2 ⟨wf', h1, a', c, h2, hA⟩, h3⟩)
      exact ⟨s, some ⟨b, o, none⟩, cap, by rw [hl], ⟨by omega, hcm, .inr ⟨b, o, rfl, hlt, hr⟩⟩⟩

/-- An argument of type []Step. -/
theorem open_steps {r : Reach} {b0 : Nat} {v : Value} {d : DataW H} {p : List MemPlace} (hv : Value.okWide Try.prog w r b0 33 v) (h : DataW.Trod enc Try.prog w 0 sp hd 33 v d p) :
    ∃ (s : List Stp) (a : Option Addr) (c : Nat), v = .slice a s.length c ∧ IsSs w.heap.size w s a c := by
  obtain ⟨a, len, cap, rfl⟩ := okWide_slice Try.underlying33 hv
  obtain ⟨n, hn⟩ := h
  obtain ⟨s, a', c, e, hA⟩ := trod_steps hn
  simp [Value.cells] at e
  obtain ⟨rfl, rfl, rfl⟩ := e
  exact ⟨s, a, cap, rfl, hA⟩
end

end Go.Proofs.Ytkejacodofmlhaa
