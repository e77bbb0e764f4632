/- Reading worlds of few things out of memory. -/
import Derived.Test.YtleohdddaadbeaaLaw9
import Derived.Test.YtleohdddaadbeaaLaw2
import Derived.Test.YtleohdddaadbeaaWn
namespace Go.Proofs.Ytleohdddaadbeaa
set_option linter.unusedVariables false
set_option linter.unusedSimpArgs false
set_option maxRecDepth 100000
open Go.ChangeShapes Go.WideShapes Go.ChangeAt Go.RowKit Go.Joins

theorem cellsIs : Try.prog.cellsOf 48 = 1 := by kernel_rfl
theorem cellsRs : Try.prog.cellsOf 45 = 1 := by kernel_rfl
theorem cellsIp : Try.prog.cellsOf 47 = 2 := by kernel_rfl

section
variable {H : Type} {enc : TypeId × Value → H} {w : World} {sp : Nat → Bool} {hd : Bool}

/-- Five parameters. -/
theorem trodAll_five {P : Program} {base : Nat} {t t1 t2 t3 t4 : TypeId} {args : Array Value} {ds : List (DataW H)} {ps : List MemPlace} (h : DataW.TrodAll enc P w base sp hd [t, t1, t2, t3, t4] args.toList ds ps) :
    ∃ v v1 v2 v3 v4 d d1 d2 d3 d4 p p1 p2 p3 p4, args = #[v, v1, v2, v3, v4] ∧ ds = [d, d1, d2, d3, d4] ∧ ps = p ++ p1 ++ p2 ++ p3 ++ p4 ∧ DataW.Trod enc P w base sp hd t v d p ∧ DataW.Trod enc P w base sp hd t1 v1 d1 p1 ∧ DataW.Trod enc P w base sp hd t2 v2 d2 p2 ∧ DataW.Trod enc P w base sp hd t3 v3 d3 p3 ∧ DataW.Trod enc P w base sp hd t4 v4 d4 p4 := by
  obtain ⟨v, vs, d, ds0, p, q, hargs, rfl, rfl, hd0, hrest⟩ := trodAll_cons h
  obtain ⟨v1, vs1, d1, ds1, p1, q1, rfl, rfl, rfl, hd1, hrest1⟩ := trodAll_cons hrest
  obtain ⟨v2, vs2, d2, ds2, p2, q2, rfl, rfl, rfl, hd2, hrest2⟩ := trodAll_cons hrest1
  obtain ⟨v3, vs3, d3, ds3, p3, q3, rfl, rfl, rfl, hd3, hrest3⟩ := trodAll_cons hrest2
  obtain ⟨v4, vs4, d4, ds4, p4, q4, rfl, rfl, rfl, hd4, hrest4⟩ := trodAll_cons hrest3
  obtain ⟨rfl, rfl, rfl⟩ := trodAll_nil hrest4
  exact ⟨v, v1, v2, v3, v4, d, d1, d2, d3, d4, p, p1, p2, p3, p4, by cases args; simp_all, rfl, by simp, hd0, hd1, hd2, hd3, hd4⟩

theorem trod_rs {n : Nat} {cs : List Value} {x : DataW H × List MemPlace} (h : DataW.trod enc Try.prog w 0 sp hd n 45 cs = some x) : ∃ (rs : List (List Int)) (a : Option Addr) (c : Nat), cs = [.slice a rs.length c] ∧ IsRs w.heap.size w rs a c := by
  rcases DataW.trod_slice Try.underlying45 h with ⟨rfl, _⟩ | ⟨a, len, cap, elems, rest, m, hm, rfl, _, _, hlc, hcm, hel, hcell, _, _⟩
  · exact ⟨[], none, 0, rfl, ⟨Nat.le_refl _, by simp [maxLen], .inl rfl⟩⟩
  · cases len with
    | zero => exact ⟨[], some a, cap, rfl, ⟨hlc, hcm, .inl rfl⟩⟩
    | succ len =>
      have each : ∀ i, i < len + 1 → ∃ (zs : List Int) (a' : Option Addr) (c' : Nat), w.cell? ((a.add (i * 1)).add 0) = some (.slice a' zs.length c') ∧ IsIs w.heap.size w zs a' c' := by
        intro i hi
        have h1 := hcell i hi
        rw [List.getElem?_eq_getElem (by omega), cellsIs, Option.bind_eq_some_iff] at h1
        obtain ⟨cs, hcs, ht⟩ := h1
        obtain ⟨zs, a', c', e0, hz⟩ := trod_is ht
        subst e0
        refine ⟨zs, a', c', ?_, hz⟩
        simp [World.cells?, Option.bind_eq_some_iff] at hcs
        simpa using hcs
      obtain ⟨b, o, spot⟩ := a
      have hspot : spot = none := by
        obtain ⟨_, _, _, h1, _⟩ := each 0 (by omega)
        cases spot with
        | none => rfl
        | some k => unfold World.cell? at h1; simp [Addr.add] at h1; split at h1 <;> simp at h1
      subst hspot
      simp only [add_none, Nat.add_zero, Nat.mul_one] at each
      have hlt : b < w.heap.size := by
        obtain ⟨_, _, _, h1, _⟩ := each 0 (by omega)
        exact lt_of_cell h1
      have hall : ∀ (n o : Nat), (∀ i, i < n → ∃ (zs : List Int) (a' : Option Addr) (c' : Nat), w.cell? ⟨b, o + i, none⟩ = some (.slice a' zs.length c') ∧ IsIs w.heap.size w zs a' c') → ∃ rs : List (List Int), rs.length = n ∧ ∀ (j : Nat) (x : List Int), rs[j]? = some x → ∃ a' c', w.cell? ⟨b, o + j, none⟩ = some (.slice a' x.length c') ∧ IsIs w.heap.size w x a' c' := by
        intro n
        induction n with
        | zero => intro o _; exact ⟨[], rfl, by simp⟩
        | succ n ih =>
          intro o h
          obtain ⟨z, a', c', hz⟩ := h 0 (by omega)
          obtain ⟨zs, hl, hr⟩ := ih (o + 1) (fun i hi => by
            obtain ⟨y, a', c', hy⟩ := h (i + 1) (by omega)
            exact ⟨y, a', c', by rw [show o + 1 + i = o + (i + 1) from by omega]; exact hy⟩)
          refine ⟨z :: zs, by simp [hl], fun j y hj => ?_⟩
          cases j with
          | zero => simp at hj; subst hj; exact ⟨a', c', hz⟩
          | succ j => rw [show o + (j + 1) = o + 1 + j from by omega]; exact hr j y (by simpa using hj)
      obtain ⟨rs, hl, hr⟩ := hall (len + 1) o each
      exact ⟨rs, some ⟨b, o, none⟩, cap, by rw [hl], ⟨by omega, hcm, .inr ⟨b, o, rfl, hlt, hr⟩⟩⟩

theorem trod_ip {n : Nat} {cs : List Value} {x : DataW H × List MemPlace} (h : DataW.trod enc Try.prog w 0 sp hd n 47 cs = some x) :
    ∃ (m : Ip) (a : Option Addr) (c : Nat), cs = [.int .i64 m.size, .slice a m.rows.length c] ∧ (Lit.int .i64 m.size).wf = true ∧ IsRs w.heap.size w m.rows a c := by
  obtain ⟨xs, m, hm, _, hl, hxs, hf⟩ := DataW.trod_struct Try.underlying47 h
  rw [cellsIp] at hl
  match cs, hl with
  | [c0, c1], _ =>
    match xs, hxs with
    | [y0, y1], _ =>
      have h0 := hf 0 _ rfl
      have h1 := hf 1 _ rfl
      simp [cellsInt, cellsRs] at h0 h1
      obtain ⟨k, e0, _, wf0⟩ := DataW.trod_int Try.underlying3 h0
      obtain ⟨rs, a, c, e1, hR⟩ := trod_rs h1
      simp at e0 e1
      subst e0
      subst e1
      exact ⟨⟨k, rs⟩, a, c, rfl, wf0, hR⟩

/-- An argument of type Interp. -/
theorem open_ip {r : Reach} {b0 : Nat} {v : Value} {d : DataW H} {p : List MemPlace} (hv : Value.okWide Try.prog w r b0 47 v) (h : DataW.Trod enc Try.prog w 0 sp hd 47 v d p) :
    ∃ (m : Ip) (a : Option Addr) (c : Nat), v = ipV m a c ∧ (Lit.int .i64 m.size).wf = true ∧ IsRs w.heap.size w m.rows a c := by
  obtain ⟨cs, rfl, _⟩ := okWide_struct Try.underlying47 hv
  obtain ⟨n, hn⟩ := h
  obtain ⟨m, a, c, e, hw, hR⟩ := trod_ip hn
  refine ⟨m, a, c, ?_, hw, hR⟩
  obtain ⟨l⟩ := cs
  simp only [Value.cells] at e
  rw [show l = _ from e]
end

end Go.Proofs.Ytleohdddaadbeaa
