/- Norm in plain words; contract of the function that numbers variables. -/
import Derived.Test.YtcbjnfdhghhgeaaMat
namespace Go.Proofs.Ytcbjnfdhghhgeaa
set_option linter.unusedVariables false
set_option linter.unusedSimpArgs false
open Go.RowKit Go.Maps

/-! ### A map from numbers to values -/
theorem zeroInt (w : World) : (zeroValue 3).run Try.prog w = .ok (.int .i64 0) w := by kernel_rfl
def MapI (W : World) (M n : Nat) (f : Int → Option Value) : Prop :=
  ∃ D : DataW Value, W.ownsMap Try.prog 3 heldR M n D ∧ Maps.size D = n ∧ ∀ v, wfi v → Maps.has D (.int .i64 v) = (f v).isSome ∧ ∀ u, f v = some u → ∀ z, D.atKey (.int .i64 v) z = .held u
theorem MapI.lt {W : World} {M n : Nat} {f : Int → Option Value} (h : MapI W M n f) : M < W.heap.size := by
  obtain ⟨D, h1, _⟩ := h; exact h1.lt
theorem MapI.kept {W W' : World} {M n : Nat} {f : Int → Option Value} (h : MapI W M n f) (hb : W'.heap[M]? = W.heap[M]?) : MapI W' M n f := by
  obtain ⟨D, ⟨es, clock, hm, r⟩, h2⟩ := h
  exact ⟨D, ⟨es, clock, hb.trans hm, r⟩, h2⟩
theorem MapI.made (w : World) : MapI (w.alloc (.map #[] 0)) w.heap.size 0 (fun _ => none) :=
  ⟨.map [], World.ownsMap_made w Try.prog 3 heldR, rfl, fun v _ => ⟨rfl, by simp⟩⟩
theorem MapI.look {W : World} {M n : Nat} {f : Int → Option Value} (h : MapI W M n f) {t e : TypeId} (ht : Try.prog.underlying t = some (.map 3 e)) {z : Value} (hz : (zeroValue e).run Try.prog W = .ok z W) {v : Int} (hv : wfi v) :
    (Instr.lookup t (.map (some M)) (.int .i64 v) true).run Try.prog W = .ok (.tuple #[(f v).getD z, .bool (f v).isSome]) W := by
  obtain ⟨D, h1, _, h3⟩ := h
  have hkey := keyOf_int_mk (P := Try.prog) (k := 3) Try.underlying3 hv.wf
  obtain ⟨q1, q2⟩ := h3 v hv
  obtain ⟨u, ps, hrun, hu⟩ := h1.look_ok keyInt ht hz (zd := .held z) (zp := []) rfl hkey
  rw [hrun, q1]
  cases hf : f v with
  | none =>
    rw [Maps.atKey_of_not_has (by rw [q1, hf]; rfl)] at hu
    simp only [heldR, Option.some.injEq, Prod.mk.injEq, DataW.held.injEq] at hu
    rw [hu.1]; rfl
  | some x =>
    rw [q2 x hf] at hu
    simp only [heldR, Option.some.injEq, Prod.mk.injEq, DataW.held.injEq] at hu
    rw [hu.1]; rfl
theorem MapI.len {W : World} {M n : Nat} {f : Int → Option Value} (h : MapI W M n f) {t e : TypeId} (ht : Try.prog.underlying t = some (.map 3 e)) (ty : TypeId) : (Builtin.len_ #[t] ty #[.map (some M)]).run Try.prog W = .ok (.int .i64 n) W := by
  obtain ⟨D, h1, h2, _⟩ := h
  rw [h1.len ht, h2]
theorem MapI.put {W : World} {M n : Nat} {f : Int → Option Value} (h : MapI W M n f) {t e : TypeId} (ht : Try.prog.underlying t = some (.map 3 e)) {v : Int} (hv : wfi v) (u : Value) (hn : n ≤ 1000000000000) :
    ∃ w', (Instr.mapUpdate t (.map (some M)) (.int .i64 v) u).run Try.prog W = .ok () w' ∧ MapI w' M (if (f v).isSome then n else n + 1) (upd f v u) ∧ W.grownBy w' (some M) := by
  obtain ⟨D, h1, h2, h3⟩ := h
  have hkey := keyOf_int_mk (P := Try.prog) (k := 3) Try.underlying3 hv.wf
  obtain ⟨w', hrun, r1, r2⟩ := h1.update keyInt ht (by unfold maxLen; omega) hkey (val := u) (d := .held u) (ps := []) rfl
  have hM := h1.isMap
  have hs : Maps.size (D.put (.int .i64 v) (.held u)) = if (f v).isSome then n else n + 1 := by rw [Maps.size_put (h1.tidy keyInt), (h3 v hv).1, h2]
  have r3 := ownsMap_exact r1
  rw [hs] at r3
  refine ⟨w', hrun, ⟨_, r3, hs, fun x hx => ?_⟩, r2⟩
  by_cases e : x = v
  · subst e
    refine ⟨by rw [Maps.has_put_same hM (show WideAt.IsKeyLit (.int .i64 x) from trivial)]; simp [upd], fun y hy z => ?_⟩
    simp only [upd, if_pos, Option.some.injEq] at hy
    rw [← hy]
    exact Maps.atKey_put_same (k := .int .i64 x) hM (show WideAt.IsKeyLit (.int .i64 x) from trivial) _ z
  · have hne : Lit.int .i64 x ≠ Lit.int .i64 v := by intro e'; injection e' with _ e'; exact e e'
    refine ⟨by rw [Maps.has_put_other hne, (h3 x hx).1]; simp [upd, e], fun y hy z => ?_⟩
    simp only [upd, if_neg e] at hy
    rw [Maps.atKey_put_other hne]
    exact (h3 x hx).2 y hy z

/-! ### Numbers of variables, as they come -/
def ix (N : List Int) (v : Int) : Int := (N.idxOf v : Nat)
def numF (N : List Int) (v : Int) : Option Value := if N.contains v then some (.int .i64 (ix N v)) else none
theorem ix_old {N : List Int} {u v : Int} (h : u ∈ N) : ix (N ++ [v]) u = ix N u := by
  unfold ix
  rw [List.idxOf_append, if_pos h]
theorem ix_new {N : List Int} {v : Int} (h : v ∉ N) : ix (N ++ [v]) v = N.length := by
  unfold ix
  rw [List.idxOf_append, if_neg h]
  simp
theorem numF_snoc {N : List Int} {v : Int} (h : v ∉ N) : numF (N ++ [v]) = upd (numF N) v (.int .i64 (N.length : Nat)) := by
  funext u
  unfold numF upd
  by_cases e : u = v
  · subst e
    rw [if_pos rfl, if_pos (by simp), ix_new h]
  · rw [if_neg e]
    show (if (N ++ [v]).contains u = true then some (Value.int .i64 (ix (N ++ [v]) u)) else none) = if N.contains u = true then some (Value.int .i64 (ix N u)) else none
    by_cases hu : u ∈ N
    · rw [if_pos (by simp [hu]), if_pos (by simpa using hu), ix_old hu]
    · rw [if_neg (by simp [hu, e]), if_neg (by simpa using hu)]
/-- The closure's state: a box that holds a map, which numbers N. -/
def NumR (W : World) (Bp Bm : Nat) (N : List Int) : Prop := W.cell? ⟨Bp, 0, none⟩ = some (.map (some Bm)) ∧ MapI W Bm N.length (numF N) ∧ Bp ≠ Bm
theorem NumR.kept {W W' : World} {Bp Bm : Nat} {N : List Int} (h : NumR W Bp Bm N) (h1 : W'.heap[Bp]? = W.heap[Bp]?) (h2 : W'.heap[Bm]? = W.heap[Bm]?) : NumR W' Bp Bm N :=
  ⟨(World.cell?_of_block (a := ⟨Bp, 0, none⟩) h1).trans h.1, h.2.1.kept h2, h.2.2⟩
theorem NumR.lt {W : World} {Bp Bm : Nat} {N : List Int} (h : NumR W Bp Bm N) : Bp < W.heap.size ∧ Bm < W.heap.size := ⟨World.block_lt_of_cell? W ⟨Bp, 0, none⟩ h.1, h.2.1.lt⟩
theorem NumR.below {W W' : World} {Bp Bm : Nat} {N : List Int} (h : NumR W Bp Bm N) (hb : Below W.heap.size W W') : NumR W' Bp Bm N := h.kept (hb.block _ h.lt.1) (hb.block _ h.lt.2)
def NmPost (Bp Bm : Nat) (N : List Int) (v : Int) (w : World) (e : Ending) (w' : World) : Prop := e = .returned (.int .i64 (ix (ddStep N v) v)) ∧ NumR w' Bp Bm (ddStep N v) ∧ w.grownBy w' (some Bm)

set_option maxRecDepth 100000 in
set_option maxHeartbeats 1000000 in
theorem number_any (N : List Int) (hN : N.length ≤ 1000000000000) (v : Int) (hv : wfi v) (Bp Bm : Nat) (w : World) (hR : NumR w Bp Bm N) :
    Calls Try.prog 99 #[.int .i64 v, .pointer (some ⟨Bp, 0, none⟩)] w (NmPost Bp Bm N v w) := by
  have hlk := hR.2.1.look Try.underlying133 (zeroInt w) hv
  have hln := hR.2.1.len Try.underlying133
  have hlt := hR.lt
  have HR := Lib.hid hR
  have hc := hR.1
  by_cases hin : v ∈ N
  · have hnf : numF N v = some (.int .i64 (ix N v)) := by unfold numF; rw [if_pos (by simpa using hin)]
    have hdd : ddStep N v = N := by unfold ddStep; rw [if_pos (by simpa using hin)]
    rw [hnf] at hlk
    simp only [Option.getD_some, Option.isSome_some] at hlk
    clear hR hnf hin
    go_enter Try.func99, Try.ntmps99
    go_wp2
    go_ret
    unfold NmPost
    rw [hdd]
    exact ⟨rfl, HR.out, grown_of_below (Below.refl _ _)⟩
  · have hnf : numF N v = none := by unfold numF; rw [if_neg (by simpa using hin)]
    have hdd : ddStep N v = N ++ [v] := by unfold ddStep; rw [if_neg (by simpa using hin)]
    obtain ⟨w', hpt, hM, hg⟩ := hR.2.1.put Try.underlying133 hv (.int .i64 (N.length : Nat)) hN
    rw [hnf] at hlk hM
    simp only [Option.getD_none, Option.isSome_none] at hlk
    have HIN := Lib.hid hin
    have HM := Lib.hid hM
    have HG := Lib.hid hg
    clear hR hnf hin hM hg
    go_enter Try.func99, Try.ntmps99
    go_wp2
    go_ret
    unfold NmPost
    rw [hdd, ix_new HIN.out]
    refine ⟨rfl, ⟨?_, ?_, HR.out.2.2⟩, HG.out⟩
    · exact (grown_cell HG.out hlt.1 HR.out.2.2).trans hc
    · have := HM.out
      simp only [Option.isSome_none, Bool.false_eq_true, if_false] at this
      rw [numF_snoc HIN.out]
      simpa using this

end Go.Proofs.Ytcbjnfdhghhgeaa
