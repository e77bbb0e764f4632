/- Contracts of the replacements: of a table, and of an offset. -/
import Derived.Test.YtfkaecjdncjggaaTab
namespace Go.Proofs.Ytfkaecjdncjggaa
set_option linter.unusedVariables false
set_option linter.unusedSimpArgs false
open Go.RowKit Go.Maps

section
variable {P : Program} {w : World} {ops : Array Oper} {rest : List Oper} {o : Oper} {a : Act} {Q : Exit → Act → World → Prop}
theorem wpList_look_hit (hg : o.guard = none) (m x : Operand) (t : TypeId) (hop : o.op = Op.lookup t m x true)
    (k e : TypeId) (K : Keyed P k) (ht : P.underlying t = some (.map k e)) {z : Value} (hz : (zeroValue e).run P w = .ok z w) (b n : Nat) (D : DataW Value)
    (hm : a.eval m = .map (some b)) (hown : w.ownsMap P k heldR b n D) (key : Value) (kl : Lit) (hx : a.eval x = key) (hkey : keyOf P k key = some kl) (hhas : Maps.has D kl = true) (u : Value) (hat : ∀ z, D.atKey kl z = .held u)
    (hK : wpList P ops Q rest (a.put o.dst (.tuple #[u, .bool true])) w) : wpList P ops Q (o :: rest) a w := by
  refine wpList_lookup_own_ok _ hg m x t hop k e K ht heldR hz (.held z) [] rfl b n D hm hown key kl hx hkey fun v ps hv => ?_
  rw [hat] at hv
  simp only [heldR, Option.some.injEq, Prod.mk.injEq, DataW.held.injEq] at hv
  rw [hv.1, hhas]
  exact hK
theorem wpList_look_miss (hg : o.guard = none) (m x : Operand) (t : TypeId) (hop : o.op = Op.lookup t m x true)
    (k e : TypeId) (K : Keyed P k) (ht : P.underlying t = some (.map k e)) {z : Value} (hz : (zeroValue e).run P w = .ok z w) (b n : Nat) (D : DataW Value)
    (hm : a.eval m = .map (some b)) (hown : w.ownsMap P k heldR b n D) (key : Value) (kl : Lit) (hx : a.eval x = key) (hkey : keyOf P k key = some kl) (hhas : Maps.has D kl = false)
    (hK : wpList P ops Q rest (a.put o.dst (.tuple #[z, .bool false])) w) : wpList P ops Q (o :: rest) a w := by
  refine wpList_lookup_own_ok _ hg m x t hop k e K ht heldR hz (.held z) [] rfl b n D hm hown key kl hx hkey fun v ps hv => ?_
  rw [Maps.atKey_of_not_has hhas] at hv
  simp only [heldR, Option.some.injEq, Prod.mk.injEq, DataW.held.injEq] at hv
  rw [hv.1, hhas]
  exact hK
end

theorem ofS_size {s : Sb} {n : Nat} (hn : 1 ≤ n) (h : ∀ x ∈ s, x.2.size ≤ n) (v : Int) : (ofS s v).size ≤ n := by
  induction s with
  | nil => simp [ofS, vt, T.size, T.sizes]; omega
  | cons p s ih =>
    obtain ⟨x, t⟩ := p
    rw [ofS]
    split
    · exact h (x, t) (by simp)
    · exact ih fun y hy => h y (by simp [hy])

set_option maxRecDepth 100000 in
set_option maxHeartbeats 1000000 in
theorem tabRep_any (s : Sb) (hsz : ∀ x ∈ s, x.2.size ≤ 1000000) (v : Int) (h1 : -9223372036854775808 ≤ v) (h2 : v ≤ 9223372036854775807) (n₀ B : Nat) (w : World) (hn : n₀ ≤ w.heap.size) (hT : TabR n₀ w B s) :
    Calls Try.prog 36 #[.map (some B), .int .i64 v] w (RepPost (ofS s v) w) := by
  have hos := ofS_size (n := 1000000) (by omega) hsz v
  have hkey := keyOf_int_mk (P := Try.prog) (k := 3) Try.underlying3 (WalkArith.wf_i64 ⟨h1, h2⟩)
  obtain ⟨D, hD, hno, hyes⟩ := hT
  cases hb : bnd s v
  · have hh := hno v hb
    have hof := ofS_unbound hb
    have hD1 := hD.alloc (tmCells 0 none 0 0)
    clear hno hyes hb hsz
    go_enter Try.func36, Try.ntmps36
    go_wp2_with (first | (at_lookup; refine wpList_look_miss (by rfl) _ _ 55 (by rfl) 3 31 keyInt Try.underlying55 (zeroTerm _) B s.length D (by rfl) hD1 _ _ (by rfl) hkey hh ?_) | (go_at_call 54; refine (sVariable_any v _ h1 h2).mono ?_; rintro e w3 ⟨rfl, hb3⟩; have r0 := (hb3.cell (p := ⟨w.heap.size, 0, none⟩) (by simp; omega)).trans (show _ = some (Value.int .i64 0) from by simp [go_sem]); have r1 := (hb3.cell (p := ⟨w.heap.size, 1, none⟩) (by simp; omega)).trans (show _ = some (Value.slice none 0 0) from by simp [go_sem]); have r2 := (hb3.frozen (p := ⟨w.heap.size, 0, none⟩) (by simp; omega)).trans (show _ = false from by simp [go_sem]); have r3 := (hb3.frozen (p := ⟨w.heap.size, 1, none⟩) (by simp; omega)).trans (show _ = false from by simp [go_sem])) | go_in)
    have hbb : Below w.heap.size w w3 := (((Below.refl _ w).alloc (Nat.le_refl _) _).alloc (by simp) _).trans (hb3.mono (by simp; omega))
    refine bodyPost_ret (v := tm (-1 - v) none 0 0) (by simp [results, Try.results36, go_sem, r0, r1]) rfl ?_
    first | rw [hof] | skip
    exact ⟨none, 0, rfl, wf_vt h1 h2, ⟨by simp [vt, T.args], by simp [maxLen], .inl rfl⟩, (hbb.setCell (p := ⟨w.heap.size, 0, none⟩) (by simp) _).setCell (p := ⟨w.heap.size, 1, none⟩) (by simp) _⟩
  · obtain ⟨hh, hw, a, c, hat, hA⟩ := hyes v hb
    generalize ofS s v = x at *
    have hD1 := hD.alloc (tmCells 0 none 0 0)
    have hB2 : Below w.heap.size w ((w.alloc (tmCells 0 none 0 0)).alloc (tmCells x.head a x.args.length c)) := ((Below.refl _ w).alloc (Nat.le_refl _) _).alloc (by simp) _
    have CC := Lib.hid (copy_any x hos n₀ a c ((w.alloc (tmCells 0 none 0 0)).alloc (tmCells x.head a x.args.length c)) (by simp; omega) hw (hA.below (hB2.mono hn)))
    have HB2 := Lib.hid hB2
    have HW := Lib.hid hw
    clear hno hyes hb hsz hA hw hB2
    go_enter Try.func36, Try.ntmps36
    go_wp2_with (first | (at_lookup; refine wpList_look_hit (by rfl) _ _ 55 (by rfl) 3 31 keyInt Try.underlying55 (zeroTerm _) B s.length D (by rfl) hD1 _ _ (by rfl) hkey hh (tm x.head a x.args.length c) hat ?_) | (go_at_call 55; refine CC.out.mono ?_; rintro e w3 ⟨a3, c3, rfl, hI3, hb3⟩; have r0 := (hb3.cell (p := ⟨w.heap.size, 0, none⟩) (by simp; omega)).trans (show _ = some (Value.int .i64 0) from by simp [go_sem]); have r1 := (hb3.cell (p := ⟨w.heap.size, 1, none⟩) (by simp; omega)).trans (show _ = some (Value.slice none 0 0) from by simp [go_sem]); have r2 := (hb3.frozen (p := ⟨w.heap.size, 0, none⟩) (by simp; omega)).trans (show _ = false from by simp [go_sem]); have r3 := (hb3.frozen (p := ⟨w.heap.size, 1, none⟩) (by simp; omega)).trans (show _ = false from by simp [go_sem])) | go_in)
    have hbb : Below w.heap.size w w3 := HB2.out.trans (hb3.mono HB2.out.size)
    refine bodyPost_ret (v := tm x.head a3 x.args.length c3) (by simp [results, Try.results36, go_sem, r0, r1]) rfl ?_
    refine ⟨a3, c3, rfl, HW.out, hI3.keep (fun b hb => ?_) (fun b hb => ⟨?_, ?_⟩), (hbb.setCell (p := ⟨w.heap.size, 0, none⟩) (by simp) _).setCell (p := ⟨w.heap.size, 1, none⟩) (by simp) _⟩
    · have h := hb.1
      simp at h
      exact (Below.heap_setCell _ _ _ _ (by show b ≠ w.heap.size; omega)).trans (Below.heap_setCell _ _ _ _ (by show b ≠ w.heap.size; omega))
    · have h := hb.1
      simp at h
      omega
    · simpa using hb.2.lt

theorem offRep_any (by_ v : Int) (h1 : 0 ≤ v) (h2 : v ≤ 255) (h3 : 0 ≤ by_) (h4 : by_ ≤ 255) (w : World) :
    Calls Try.prog 49 #[.int .i64 by_, .int .i64 v] w (RepPost (vt (v + by_)) w) := by
  go_enter Try.func49, Try.ntmps49
  go_wp2_with fail
  refine (sVariable_any (v + by_) _ (by omega) (by omega)).mono ?_
  rintro e w3 ⟨rfl, hb3⟩
  have r0 := (hb3.cell (p := ⟨w.heap.size, 0, none⟩) (by simp)).trans (show _ = some (Value.int .i64 0) from by simp [go_sem])
  have r1 := (hb3.cell (p := ⟨w.heap.size, 1, none⟩) (by simp)).trans (show _ = some (Value.slice none 0 0) from by simp [go_sem])
  have r2 := (hb3.frozen (p := ⟨w.heap.size, 0, none⟩) (by simp)).trans (show _ = false from by simp [go_sem])
  have r3 := (hb3.frozen (p := ⟨w.heap.size, 1, none⟩) (by simp)).trans (show _ = false from by simp [go_sem])
  have HB := Lib.hid (((Below.refl _ w).alloc (Nat.le_refl _) _).trans (hb3.mono (by simp)))
  clear hb3
  go_wp2
  refine bodyPost_ret (v := tm (-1 - (v + by_)) none 0 0) (by simp [results, Try.results49, go_sem, r0, r1]) rfl ?_
  exact ⟨none, 0, rfl, wf_vt (by omega) (by omega), ⟨by simp [vt, T.args], by simp [maxLen], .inl rfl⟩, (HB.out.setCell (p := ⟨w.heap.size, 0, none⟩) (by simp) _).setCell (p := ⟨w.heap.size, 1, none⟩) (by simp) _⟩

end Go.Proofs.Ytfkaecjdncjggaa
