/- QBd: joined of SgA, Rb0, SgB. -/
import Derived.Test.YtpncmdlbmnmahaaGreatQBc
import Derived.Test.YtpncmdlbmnmahaaGreatQBb
import Derived.Shelf.SlicesQ.IndexFunc
import Derived.Laws.StructEq
import Derived.Lib.QuietBelow
import Derived.Deep.QuietTactic
import Derived.BigQuiet
import Derived.WalkSmall
/- Contracts of weigh's notAllowed, Find, differentNames and Check. -/
namespace Go.Proofs
open Go.Shelf
def Tryz.idxSym_ren : Go.Shelf.Ren := ⟨fun | 6 => 69 | n => n, fun | 22 => 22 | 23 => 72 | 25 => 79 | 3 => 3 | 0 => 0 | 4 => 4 | n => n, fun | n => n⟩
theorem Tryz.idxSym : Go.Proofs.SlLaysH0.n6 Tryz.prog Tryz.idxSym_ren := {
  mixed := by kernel_rfl
  f6 := ⟨Tryz.f69.name, by decide, Tryz.func69.trans (congrArg some (by kernel_rfl))⟩
  t0 := Tryz.underlying0
  a0 := Tryz.isAgg0
  z0 := Tryz.sizeOf0
  v0 := Tryz.zeroValue0
  t3 := Tryz.underlying3
  a3 := Tryz.isAgg3
  z3 := Tryz.sizeOf3
  v3 := Tryz.zeroValue3
  t4 := Tryz.underlying4
  a4 := Tryz.isAgg4
  z4 := Tryz.sizeOf4
  v4 := Tryz.zeroValue4
  t22 := Tryz.underlying22
  a22 := Tryz.isAgg22
  z22 := Tryz.sizeOf22
  v22 := Tryz.zeroValue22
  t25 := Tryz.underlying79
  a25 := Tryz.isAgg79
  z25 := Tryz.sizeOf79
  v25 := Tryz.zeroValue79 }
def Tryz.conSym_ren : Go.Shelf.Ren := ⟨fun | 8 => 50 | 6 => 69 | n => n, fun | 22 => 22 | 23 => 72 | 25 => 79 | 4 => 4 | 3 => 3 | 0 => 0 | n => n, fun | n => n⟩
theorem Tryz.conSym : Go.Proofs.SlLaysH0.n8 Tryz.prog Tryz.conSym_ren := {
  mixed := by kernel_rfl
  f6 := ⟨Tryz.f69.name, by decide, Tryz.func69.trans (congrArg some (by kernel_rfl))⟩
  f8 := ⟨Tryz.f50.name, by decide, Tryz.func50.trans (congrArg some (by kernel_rfl))⟩
  t0 := Tryz.underlying0
  a0 := Tryz.isAgg0
  z0 := Tryz.sizeOf0
  v0 := Tryz.zeroValue0
  t3 := Tryz.underlying3
  a3 := Tryz.isAgg3
  z3 := Tryz.sizeOf3
  v3 := Tryz.zeroValue3
  t4 := Tryz.underlying4
  a4 := Tryz.isAgg4
  z4 := Tryz.sizeOf4
  v4 := Tryz.zeroValue4
  t22 := Tryz.underlying22
  a22 := Tryz.isAgg22
  z22 := Tryz.sizeOf22
  v22 := Tryz.zeroValue22
  t25 := Tryz.underlying79
  a25 := Tryz.isAgg79
  z25 := Tryz.sizeOf79
  v25 := Tryz.zeroValue79 }
end Go.Proofs
namespace Go.Proofs.YtpncmdlbmnmahaaGreat
set_option linter.unusedVariables false
set_option linter.unusedSimpArgs false
open Go.RowKit
instance : Inhabited Sy := ⟨⟨ByteArray.empty, 0, 0, false⟩⟩
theorem beq_toList_decide (a b : ByteArray) : (a.toList == b.toList) = decide (a = b) := by
  rw [ByteArray.toList_eq, ByteArray.toList_eq]
  obtain ⟨⟨x⟩⟩ := a
  obtain ⟨⟨y⟩⟩ := b
  by_cases h : x = y
  · subst h; simp
  · simp [h]
theorem tl_iff (a b : ByteArray) : a.toList = b.toList ↔ a = b := by
  have := beq_toList_decide a b
  constructor
  · intro h
    rw [h] at this
    simpa using this.symm
  · rintro rfl; rfl
/-- The closure of Find: has the symbol that name? -/
theorem find1_any (name : ByteArray) (B : Nat) (w : World) (hB : B < w.heap.size) (hcell : w.cell? ⟨B, 0, none⟩ = some (.string name)) :
    PredBelow Tryz.prog 96 #[.pointer (some ⟨B, 0, none⟩)] (fun x : Sy => .agg x.cells.toArray) (fun x => decide (x.name = name)) w := fun W x hb => by
  have hc : W.cell? ⟨B, 0, none⟩ = some (.string name) := (hb.cell (p := ⟨B, 0, none⟩) hB).trans hcell
  have hBW : B < W.heap.size := Nat.lt_of_lt_of_le hB hb.size
  have hne : B ≠ W.heap.size := by omega
  show Calls Tryz.prog 96 #[sy x, .pointer (some ⟨B, 0, none⟩)] W _
  have HB := Lib.hid hb
  clear hb
  go_enter Tryz.func96, Tryz.ntmps96
  go_wp2
  all_goals (go_ret; refine ⟨?_, HB.out.alloc HB.out.size _⟩; first | simp [beq_toList_decide] | simp_all)
theorem notAllowed_any (w : World) :
    PredBelow Tryz.prog 51 #[] (fun x : Sy => .agg x.cells.toArray) badSy w := fun W x hb => by
  show Calls Tryz.prog 51 #[sy x] W _
  have HB := Lib.hid hb
  clear hb
  have hbad : badSy x = (decide (x.name.size < 1) || decide (64 < x.name.size) || decide (x.ar < 0) || decide (8 < x.ar) || decide (x.wt < 1) || decide (1000 < x.wt)) := rfl
  rw [hbad]
  clear hbad
  by_cases q1 : x.name.size < 1
  · go_enter Tryz.func51, Tryz.ntmps51
    go_wp2
    all_goals (go_ret; refine ⟨?_, HB.out.alloc HB.out.size _⟩; first | simp [q1] | simp_all)
  by_cases q2 : 64 < x.name.size
  · go_enter Tryz.func51, Tryz.ntmps51
    go_wp2
    all_goals (go_ret; refine ⟨?_, HB.out.alloc HB.out.size _⟩; first | simp [q1, q2] | simp_all)
  by_cases q3 : x.ar < 0
  · go_enter Tryz.func51, Tryz.ntmps51
    go_wp2
    all_goals (go_ret; refine ⟨?_, HB.out.alloc HB.out.size _⟩; first | simp [q1, q2, q3] | simp_all)
  by_cases q4 : 8 < x.ar
  · go_enter Tryz.func51, Tryz.ntmps51
    go_wp2
    all_goals (go_ret; refine ⟨?_, HB.out.alloc HB.out.size _⟩; first | simp [q1, q2, q3, q4] | simp_all)
  by_cases q5 : x.wt < 1
  · go_enter Tryz.func51, Tryz.ntmps51
    go_wp2
    all_goals (go_ret; refine ⟨?_, HB.out.alloc HB.out.size _⟩; first | simp [q1, q2, q3, q4, q5] | simp_all)
  by_cases q6 : 1000 < x.wt
  · go_enter Tryz.func51, Tryz.ntmps51
    go_wp2
    all_goals (go_ret; refine ⟨?_, HB.out.alloc HB.out.size _⟩; first | simp [q1, q2, q3, q4, q5, q6] | simp_all)
  · go_enter Tryz.func51, Tryz.ntmps51
    go_wp2
    all_goals (go_ret; refine ⟨?_, HB.out.alloc HB.out.size _⟩; simp [show ¬ ((x.name.size : Int) < 1) from by omega, show ¬ (64 < (x.name.size : Int)) from by omega, show ¬ (x.ar < 0) from by omega, show ¬ (8 < x.ar) from by omega, show ¬ (x.wt < 1) from by omega, show ¬ (1000 < x.wt) from by omega, q1, q2, q3, q4, q5, q6])
/-- The library's IndexFunc and ContainsFunc at symbols, whatever the predicate. -/
theorem indexSy_any (p : Sy → Bool) (f : Nat) (lb : Array Value) (eg : ∀ args w, (callFunc f args).run Tryz.prog w = .ok (.enter f args) w) (g : Sg) (n₀ : Nat) (a : Option Addr) (c : Nat) (w : World) (hn : n₀ ≤ w.heap.size) (hG : IsSg n₀ w g a c)
    (hp : PredBelow Tryz.prog f lb (fun x : Sy => .agg x.cells.toArray) p w) (hg : 0 < g.length) :
    Calls Tryz.prog 69 #[.slice a g.length c, .func (.func f) #[] lb] w fun e w' => e = .returned (.int .i64 (Lib.idxBy (fun _ y => p y) g default)) ∧ Below w.heap.size w w' := by
  obtain ⟨h1, h2, h3⟩ := hG
  rcases h3 with rfl | ⟨b, o, rfl, hb, hr⟩
  · simp at hg
  · have h := AnyQ.slices_IndexFunc Tryz.idxSym 4 Tryz.isAgg72 Tryz.sizeOf72 Sy.cells (fun _ => rfl) p f lb eg b o g.length c g w hp (Nat.le_refl _) (by unfold maxLen at h2; omega) (by omega)
      (fun j hj i v hv => by
        have hx := hr j g[j] (List.getElem?_eq_getElem hj)
        rw [getElem!_pos g j hj] at hv
        generalize g[j] = x at hx hv
        obtain ⟨_, q0, q1, q2, q3⟩ := hx
        match i, hv with
        | 0, hv => simp [Sy.cells] at hv; rw [← hv]; exact q0
        | 1, hv => simp [Sy.cells] at hv; rw [← hv]; exact q1
        | 2, hv => simp [Sy.cells] at hv; rw [← hv]; exact q2
        | 3, hv => simp [Sy.cells] at hv; rw [← hv]; exact q3
        | i + 4, hv => simp [Sy.cells] at hv)
    rw [List.take_length] at h
    exact h
theorem containsBad_any (g : Sg) (n₀ : Nat) (a : Option Addr) (c : Nat) (w : World) (hn : n₀ ≤ w.heap.size) (hG : IsSg n₀ w g a c) (hg : 0 < g.length) :
    Calls Tryz.prog 50 #[.slice a g.length c, .func (.func 51) #[] #[]] w fun e w' => e = .returned (.bool (g.any badSy)) ∧ Below w.heap.size w w' := by
  obtain ⟨h1, h2, h3⟩ := hG
  rcases h3 with rfl | ⟨b, o, rfl, hb, hr⟩
  · simp at hg
  · have h := AnyQ.slices_ContainsFunc Tryz.conSym 4 Tryz.isAgg72 Tryz.sizeOf72 Sy.cells (fun _ => rfl) badSy 51 #[] (enters_of Tryz.func51 (by kernel_rfl) rfl) b o g.length c g w (notAllowed_any w) (Nat.le_refl _) (by unfold maxLen at h2; omega) (by omega)
      (fun j hj i v hv => by
        have hx := hr j g[j] (List.getElem?_eq_getElem hj)
        rw [getElem!_pos g j hj] at hv
        generalize g[j] = x at hx hv
        obtain ⟨_, q0, q1, q2, q3⟩ := hx
        match i, hv with
        | 0, hv => simp [Sy.cells] at hv; rw [← hv]; exact q0
        | 1, hv => simp [Sy.cells] at hv; rw [← hv]; exact q1
        | 2, hv => simp [Sy.cells] at hv; rw [← hv]; exact q2
        | 3, hv => simp [Sy.cells] at hv; rw [← hv]; exact q3
        | i + 4, hv => simp [Sy.cells] at hv)
    rw [List.take_length] at h
    exact h
theorem idxBy_sy (name : ByteArray) (g : Sg) : Lib.idxBy (fun _ (y : Sy) => decide (y.name = name)) g default = match idxSy name g with
    | some i => (i : Int)
    | none => -1 := by
  cases h : idxSy name g with
  | none =>
    have h1 := idxSy_none h
    have := Lib.idxBy_miss (fun _ (y : Sy) => decide (y.name = name)) g g.length default (fun j hj => by
      rw [getElem!_pos g j hj]
      simpa using h1 g[j] (List.getElem_mem hj))
    rw [List.take_length] at this
    exact this
  | some i =>
    obtain ⟨x, h1, h2, h3⟩ := idxSy_get h
    obtain ⟨hi, e⟩ := List.getElem?_eq_some_iff.1 h1
    have := Lib.idxBy_hit (fun _ (y : Sy) => decide (y.name = name)) g g.length i default hi (Nat.le_refl _) (by rw [getElem!_pos g i hi, e]; simpa using h2) (fun j hj => by
      have hjl : j < g.length := by omega
      rw [getElem!_pos g j hjl]
      simpa using h3 j g[j] hj (List.getElem?_eq_getElem hjl))
    rw [List.take_length] at this
    exact this
/-- What Find returns. -/
def findV (name : ByteArray) (g : Sg) : Value := match idxSy name g with
  | some i => .tuple #[.int .i64 (i : Int), .bool true]
  | none => .tuple #[.int .i64 0, .bool false]
theorem find_any (name : ByteArray) (g : Sg) (hg : 0 < g.length) (n₀ : Nat) (a : Option Addr) (c : Nat) (w : World) (hn : n₀ ≤ w.heap.size) (hG : IsSg n₀ w g a c) :
    Calls Tryz.prog 70 #[.slice a g.length c, .string name] w fun e w' => e = .returned (findV name g) ∧ Below w.heap.size w w' := by
  have hlc : g.length ≤ c ∧ c ≤ maxLen := ⟨hG.1, hG.2.1⟩
  unfold maxLen at hlc
  obtain ⟨hl1, hl2⟩ := hlc
  have eg : ∀ args w, (callFunc 96 args).run Tryz.prog w = .ok (.enter 96 args) w := enters_of Tryz.func96 (by kernel_rfl) rfl
  have CI := Lib.hid (indexSy_any (fun y => decide (y.name = name)) 96 #[.pointer (some ⟨w.heap.size, 0, none⟩)] eg g n₀ a c (w.alloc (.cells #[.string name] 9)) (by simp; omega)
    (hG.below ((Below.refl _ _).alloc hn _)) (find1_any name w.heap.size _ (by simp) (by simp)) hg)
  have HI := Lib.hid (idxBy_sy name g)
  have HG := Lib.hid (show ∀ i, idxSy name g = some i → i < g.length from fun i hi => by
    obtain ⟨x, h1, _⟩ := idxSy_get hi
    exact (List.getElem?_eq_some_iff.1 h1).1)
  clear hG eg
  unfold findV
  generalize Lib.idxBy (fun _ (y : Sy) => decide (y.name = name)) g default = r at *
  cases hx : idxSy name g with
  | none =>
    have hr : r = -1 := by have := HI.out; rw [hx] at this; exact this
    subst hr
    clear hx
    go_enter Tryz.func70, Tryz.ntmps70
    go_wp2_with fail
    refine CI.out.mono ?_
    rintro e w2 ⟨rfl, hb2⟩
    have HB2 := Lib.hid (((Below.refl _ w).alloc (Nat.le_refl _) _).trans (hb2.mono (by simp)))
    clear hb2
    go_wp2
    refine bodyPost_ret (v := .tuple #[.int .i64 0, .bool false]) (by simp [results, Tryz.results70, go_sem] <;> decide) rfl ?_
    exact ⟨rfl, HB2.out⟩
  | some i =>
    have hr : r = (i : Int) := by have := HI.out; rw [hx] at this; exact this
    have hil := HG.out i hx
    subst hr
    clear hx
    go_enter Tryz.func70, Tryz.ntmps70
    go_wp2_with fail
    refine CI.out.mono ?_
    rintro e w2 ⟨rfl, hb2⟩
    have HB2 := Lib.hid (((Below.refl _ w).alloc (Nat.le_refl _) _).trans (hb2.mono (by simp)))
    clear hb2
    go_wp2
    refine bodyPost_ret (v := .tuple #[.int .i64 (i : Int), .bool true]) (by simp [results, Tryz.results70, go_sem]) rfl ?_
    exact ⟨rfl, HB2.out⟩
def DifI (g : Sg) (w : World) (i : Value) (wr : World) : Prop := ∃ k : Nat, k ≤ g.length ∧ i = .int .i64 k ∧ (∀ j x, j < k → g[j]? = some x → idxSy x.name g = some j) ∧ Below w.heap.size w wr
set_option maxRecDepth 100000 in
set_option maxHeartbeats 2000000 in
theorem different_any (g : Sg) (hg : 0 < g.length) (n₀ : Nat) (a : Option Addr) (c : Nat) (w : World) (hn : n₀ ≤ w.heap.size) (hG : IsSg n₀ w g a c) :
    Calls Tryz.prog 52 #[.slice a g.length c] w fun e w' => e = .returned (.bool (difSg g)) ∧ Below w.heap.size w w' := by
  have hlc : g.length ≤ c ∧ c ≤ maxLen := ⟨hG.1, hG.2.1⟩
  unfold maxLen at hlc
  obtain ⟨hl1, hl2⟩ := hlc
  have HS := Lib.hid hG
  clear hG
  go_enter Tryz.func52, Tryz.ntmps52
  go_wp2
  go_loopw [9] (fun i wr => DifI g w i wr) (fun i _ => g.length - (intOf i).toNat)
  case atStart => exact ⟨0, Nat.zero_le _, rfl, fun j x hj => by omega, Below.refl _ _⟩
  case round =>
    obtain ⟨k, hk, rfl, hbd, hB⟩ := hrel
    have HBD := Lib.hid hbd
    have HB := Lib.hid hB
    have hbz := hB.size
    clear hbd hB
    by_cases hlt : k < g.length
    · obtain ⟨b, o, x, rfl, hbn, hs, hxw, hc0, hc1, hc2, hc3⟩ := (HS.out.below (HB.out.mono hn)).elem (i := k) hlt
      have hk0 : (0 : Int) ≤ (k : Int) := Int.natCast_nonneg _
      have hk1 : (k : Int) < (g.length : Int) := by omega
      have hbw : b < wr.heap.size := by omega
      have HXK := Lib.hid hs
      have CF := Lib.hid (fun (W : World) (hW : Below w.heap.size w W) => find_any x.name g hg n₀ (some ⟨b, o, none⟩) c W (Nat.le_trans hn hW.size) (HS.out.below (hW.mono hn)))
      clear hs hxw
      cases hx : idxSy x.name g with
      | none => 
        have := idxSy_none hx x (List.mem_of_getElem? HXK.out)
        exact absurd rfl this
      | some i =>
      have HX := Lib.hid hx
      have hil : i < g.length := by obtain ⟨y, h1, _⟩ := idxSy_get hx; exact (List.getElem?_eq_some_iff.1 h1).1
      have hfv : findV x.name g = .tuple #[.int .i64 (i : Int), .bool true] := by unfold findV; rw [hx]
      rw [hfv] at CF
      clear hfv hx
      go_wp2_with fail
      refine (CF.out _ (by first | exact HB.out.alloc HB.out.size _ | exact (HB.out.alloc HB.out.size _).alloc (by simp; omega) _)).mono ?_
      rintro e w2 ⟨rfl, hb2⟩
      have HB2 := Lib.hid ((HB.out.alloc HB.out.size _).trans (hb2.mono (by simp; omega)))
      clear hb2
      by_cases hik : i = k
      · subst hik
        go_wp2
        go_roundw
        case rel =>
          refine ⟨i + 1, by omega, by go_num, fun j y hj hy => ?_, HB2.out⟩
          by_cases e : j = i
          · subst e
            rw [HXK.out] at hy
            obtain rfl := Option.some.inj hy
            exact HX.out
          · exact HBD.out j y (by omega) hy
        case measure => simp [intOf]; omega
      · have hik' : ¬ ((i : Int) = (k : Int)) := by omega
        have HD := Lib.hid (show difSg g = false from by
          have h1 : ¬ (∀ j, j < g.length → ∀ y, g[j]? = some y → idxSy y.name g = some j) := fun h => by
            have := h k hlt x HXK.out
            rw [HX.out] at this
            exact hik (Option.some.inj this)
          cases hd : difSg g with
          | false => rfl
          | true =>
            exfalso
            apply h1
            intro j hj y hy
            have := List.all_eq_true.1 hd j (List.mem_range.2 hj)
            simpa [hy] using this)
        go_wp2
        go_ret
        exact ⟨by rw [HD.out]; rfl, HB2.out⟩
    · obtain rfl : k = g.length := by omega
      have HD := Lib.hid (show difSg g = true from List.all_eq_true.2 fun j hj => by
        have hj := List.mem_range.1 hj
        have := HBD.out j g[j] hj (List.getElem?_eq_getElem hj)
        simp [List.getElem?_eq_getElem hj, this])
      go_wp2
      go_ret
      exact ⟨by rw [HD.out]; rfl, HB.out⟩
theorem neqSym (x y : Sy) (w : World) : Sem.run Tryz.prog (binOp .neq 72 (sy x) (sy y)) w = .ok (.bool (decide (x ≠ y))) w := by
  have hS : Tryz.prog.underlying 72 = some (.struct (Tryz.prog.fieldsOf 72)) := by kernel_rfl
  have hp : Tryz.prog.stoodInHeld 72 = false := by kernel_rfl
  have a1 := Tryz.isAgg9
  have z1 := Tryz.sizeOf9
  have u1 := Tryz.underlying9
  have a3 := Tryz.isAgg3
  have z3 := Tryz.sizeOf3
  have u3 := Tryz.underlying3
  have a4 := Tryz.isAgg4
  have z4 := Tryz.sizeOf4
  have u4 := Tryz.underlying4
  rw [run_neq_struct, show (10000 : Nat) = 9999 + 1 from rfl, run_equalIn_agg w 9999 72 _ _ hS hp]
  simp only [Program.fieldsOf, Tryz.underlying72]
  go_simp
  obtain ⟨n1, a1, t1, r1⟩ := x
  obtain ⟨n2, a2, t2, r2⟩ := y
  simp only [tl_iff, Sy.mk.injEq]
  by_cases h1 : n1 = n2 <;> by_cases h2 : a1 = a2 <;> by_cases h3 : t1 = t2 <;> by_cases h4 : r1 = r2 <;> simp [h1, h2, h3, h4]
set_option maxRecDepth 100000 in
set_option maxHeartbeats 2000000 in
theorem sgCheck_any (g : Sg) (n₀ : Nat) (a : Option Addr) (c : Nat) (w : World) (hn : n₀ ≤ w.heap.size) (hG : IsSg n₀ w g a c) :
    Calls Tryz.prog 34 #[.slice a g.length c] w fun e w' => e = .returned (.int .i64 (errG g)) ∧ Below w.heap.size w w' := by
  have hlc : g.length ≤ c ∧ c ≤ maxLen := ⟨hG.1, hG.2.1⟩
  unfold maxLen at hlc
  obtain ⟨hl1, hl2⟩ := hlc
  have HG := Lib.hid hG
  clear hG
  by_cases q1 : g.length < 1
  · have HE := Lib.hid (show errG g = 1 from by unfold errG rightG; simp [show ¬ 1 ≤ g.length from by omega])
    go_enter Tryz.func34, Tryz.ntmps34
    go_wp2
    go_ret
    exact ⟨by rw [HE.out]; rfl, Below.refl _ _⟩
  by_cases q2 : 256 < g.length
  · have HE := Lib.hid (show errG g = 1 from by unfold errG rightG; simp [show ¬ g.length ≤ 256 from by omega])
    go_enter Tryz.func34, Tryz.ntmps34
    go_wp2
    go_ret
    exact ⟨by rw [HE.out]; rfl, Below.refl _ _⟩
  obtain ⟨b, o, x, rfl, hbn, hs, hxw, hc0, hc1, hc2, hc3⟩ := HG.out.elem (i := 0) (by omega)
  simp only [Nat.zero_mul, Nat.add_zero] at hc0 hc1 hc2 hc3
  have hgd := fun (op : BinOp) (p q : Operand) (u v : Array Value) (W : World) => run_eqGuard_agg (P := Tryz.prog) W op 72 p q u v (by kernel_rfl)
  have h0 : (decide (g[0]? = some sy0)) = decide (x = sy0) := by rw [hs]; simp
  have HS := Lib.hid h0
  clear h0 hs
  by_cases q3 : x = sy0
  · have q3x := q3
    have hneq : ∀ W, Sem.run Tryz.prog (binOp .neq 72 (.agg #[.string x.name, .int .i64 x.ar, .int .i64 x.wt, .bool x.tr]) (.agg #[.string ⟨#[36, 116, 114, 117, 101]⟩, .int .i64 0, .int .i64 1, .bool true])) W = .ok (.bool false) W := fun W => (neqSym x sy0 W).trans (by simp [q3])
    have H3 := Lib.hid (show decide (g[0]? = some sy0) = true from by rw [HS.out, q3]; simp)
    have CB := Lib.hid (containsBad_any g n₀ (some ⟨b, o, none⟩) c w hn HG.out (by omega))
    have CD := Lib.hid (fun (W : World) (hW : Below w.heap.size w W) => different_any g (by omega) n₀ (some ⟨b, o, none⟩) c W (Nat.le_trans hn hW.size) (HG.out.below (hW.mono hn)))
    clear q3 q3x
    go_enter Tryz.func34, Tryz.ntmps34
    go_wp2_with fail
    refine CB.out.mono ?_
    rintro e w2 ⟨rfl, hb2⟩
    have HB2 := Lib.hid hb2
    clear hb2
    cases hA : g.any badSy with
    | true =>
      have HE := Lib.hid (show errG g = 1 from by unfold errG rightG; rw [hA]; simp)
      clear hA
      go_wp2
      go_ret
      exact ⟨by rw [HE.out]; rfl, HB2.out⟩
    | false =>
      have HA := Lib.hid hA
      clear hA
      go_wp2_with fail
      refine (CD.out _ HB2.out).mono ?_
      rintro e w3 ⟨rfl, hb3⟩
      have HB3 := Lib.hid (HB2.out.trans (hb3.mono HB2.out.size))
      clear hb3
      cases hD : difSg g with
      | true =>
        have HE := Lib.hid (show errG g = 0 from by unfold errG rightG; rw [H3.out, HA.out, hD]; simp; omega)
        clear hD
        go_wp2
        go_ret
        exact ⟨by rw [HE.out]; rfl, HB3.out⟩
      | false =>
        have HE := Lib.hid (show errG g = 1 from by unfold errG rightG; rw [hD]; simp)
        clear hD
        go_wp2
        go_ret
        exact ⟨by rw [HE.out]; rfl, HB3.out⟩
  · have q3x := q3
    have hneq : ∀ W, Sem.run Tryz.prog (binOp .neq 72 (.agg #[.string x.name, .int .i64 x.ar, .int .i64 x.wt, .bool x.tr]) (.agg #[.string ⟨#[36, 116, 114, 117, 101]⟩, .int .i64 0, .int .i64 1, .bool true])) W = .ok (.bool true) W := fun W => (neqSym x sy0 W).trans (by simp [q3])
    have HE := Lib.hid (show errG g = 1 from by unfold errG rightG; rw [HS.out]; simp [q3])
    clear q3 q3x
    go_enter Tryz.func34, Tryz.ntmps34
    go_wp2
    go_ret
    exact ⟨by rw [HE.out]; rfl, Below.refl _ _⟩
end Go.Proofs.YtpncmdlbmnmahaaGreat

/- Rb0: of RCk, the plain lemmas on depth and on bad subterms. -/
namespace Go.Proofs.YtpncmdlbmnmahaaGreat
set_option linter.unusedVariables false
set_option linter.unusedSimpArgs false
open Go.RowKit
theorem T.depth_eq (t : T) : t.depth = 1 + T.depths t.args := by cases t; simp [T.depth, T.args]; omega
theorem T.depths_append (a b : List T) : T.depths (a ++ b) = max (T.depths a) (T.depths b) := by
  induction a with
  | nil => simp [T.depths]
  | cons t ts ih => simp only [List.cons_append, T.depths, ih]; omega
theorem T.depths_take {ts : List T} {i : Nat} {t : T} (h : ts[i]? = some t) : T.depths (ts.take (i + 1)) = max (T.depths (ts.take i)) t.depth := by
  obtain ⟨hi, e⟩ := List.getElem?_eq_some_iff.1 h
  rw [List.take_succ_eq_append_getElem hi, T.depths_append, e]; simp [T.depths]
mutual
theorem T.depth_le_size : (t : T) → t.depth ≤ t.size
  | .node h ts => by simp only [T.depth, T.size]; have := T.depths_le_sizes ts; omega
theorem T.depths_le_sizes : (ts : List T) → T.depths ts ≤ T.sizes ts
  | [] => by simp [T.depths, T.sizes]
  | t :: ts => by simp only [T.depths, T.sizes]; have := T.depth_le_size t; have := T.depths_le_sizes ts; omega
end
theorem bad_eq (t : T) : bad (T.subs 1 t) = (!okB t.head t.args.length || bad (T.subss 2 t.args)) := by rw [T.subs_eq]; rfl
mutual
theorem bad_level (l l' : Nat) : (t : T) → bad (T.subs l t) = bad (T.subs l' t)
  | .node h ts => by
    have := bads_level (l + 1) (l' + 1) ts
    simp only [bad, T.subs, List.any_cons] at this ⊢
    rw [this]
theorem bads_level (l l' : Nat) : (ts : List T) → bad (T.subss l ts) = bad (T.subss l' ts)
  | [] => rfl
  | t :: ts => by
    have h1 := bad_level l l' t
    have h2 := bads_level l l' ts
    simp only [bad, T.subss, List.any_append] at h1 h2 ⊢
    rw [h1, h2]
end
theorem bads_take {ts : List T} {i : Nat} {t : T} (h : ts[i]? = some t) : bad (T.subss 2 (ts.take (i + 1))) = (bad (T.subss 2 (ts.take i)) || bad (T.subs 1 t)) := by
  obtain ⟨hi, e⟩ := List.getElem?_eq_some_iff.1 h
  have happ : ∀ (a b : List T), bad (T.subss 2 (a ++ b)) = (bad (T.subss 2 a) || bad (T.subss 2 b)) := by
    intro a b
    induction a with
    | nil => simp [T.subss, bad]
    | cons t ts ih => simp only [List.cons_append, T.subss, bad, List.any_append] at ih ⊢; rw [ih, Bool.or_assoc]
  rw [List.take_succ_eq_append_getElem hi, happ, e]
  congr 1
  rw [bad_level 1 2 t]
  simp [T.subss]
theorem bads_mem {ts : List T} {i : Nat} {t : T} (h : ts[i]? = some t) (hb : bad (T.subs 1 t) = true) : bad (T.subss 2 ts) = true := by
  have h1 := bads_take h
  rw [hb, Bool.or_true] at h1
  have happ : ∀ (a b : List T), bad (T.subss 2 a) = true → bad (T.subss 2 (a ++ b)) = true := by
    intro a b
    induction a with
    | nil => simp [T.subss, bad]
    | cons t ts ih =>
      simp only [List.cons_append, T.subss, bad, List.any_append, Bool.or_eq_true] at ih ⊢
      rintro (h | h)
      · exact .inl h
      · exact .inr (ih h)
  have := happ _ (ts.drop (i + 1)) h1
  rwa [List.take_append_drop] at this
theorem good_arg {t s : T} {k : Nat} (h : bad (T.subs 1 t) = false) (hs : t.args[k]? = some s) : bad (T.subs 1 s) = false := by
  rw [bad_eq, Bool.or_eq_false_iff] at h
  cases hb : bad (T.subs 1 s)
  · rfl
  · have := bads_mem hs hb
    rw [h.2] at this
    cases this
theorem good_head {t : T} (h : bad (T.subs 1 t) = false) : okB t.head t.args.length = true := by
  rw [bad_eq, Bool.or_eq_false_iff] at h
  simpa using h.1
theorem good_var {t : T} (h : bad (T.subs 1 t) = false) (hn : t.head < 0) : t.args = [] := by
  have := good_head h
  simp [okB, hn] at this
  exact this.1
theorem check_ok {t : T} (h : t.check = 0) : t.size ≤ 400 ∧ t.depth ≤ 40 ∧ bad (T.subs 1 t) = false := by
  unfold T.check at h
  by_cases q1 : 400 < t.size
  · rw [if_pos q1] at h; cases h
  · rw [if_neg q1] at h
    by_cases q2 : 40 < t.depth
    · rw [if_pos q2] at h; cases h
    · rw [if_neg q2] at h
      cases hb : bad (T.subs 1 t)
      · exact ⟨by omega, by omega, rfl⟩
      · rw [hb] at h; cases h
end Go.Proofs.YtpncmdlbmnmahaaGreat

/- Contracts of weigh's fits, anyPredicate and Term. -/
namespace Go.Proofs.YtpncmdlbmnmahaaGreat
set_option linter.unusedVariables false
set_option linter.unusedSimpArgs false
open Go.RowKit
theorem bl_drew (W : World) (n : Nat) : Below W.heap.size W (W.drewN n) := ⟨rfl, rfl, rfl, Nat.le_refl _, fun _ _ => rfl⟩
/-- What is asked of a predicate on terms. -/
def PredT (f : Nat) (lb : Array Value) (p : T → Bool) (ts : List T) (n₀ : Nat) (w : World) : Prop :=
  ∀ (W : World) (t : T) (a : Option Addr) (c : Nat), t ∈ ts → Below w.heap.size w W → (Lit.int .i64 t.head).wf = true → IsArgs n₀ W t.args a c →
    Calls Tryz.prog f (#[tm t.head a t.args.length c] ++ lb) W fun e w' => e = .returned (.bool (p t)) ∧ Below W.heap.size W w'
def IdxT (p : T → Bool) (ts : List T) (w : World) (i : Value) (wr : World) : Prop := ∃ k : Nat, k ≤ ts.length ∧ i = .int .i64 k ∧ ts.any p = (ts.drop k).any p ∧ Below w.heap.size w wr
set_option maxRecDepth 100000 in
set_option maxHeartbeats 2000000 in
theorem indexT_any (p : T → Bool) (f : Nat) (lb : Array Value) (eg : ∀ args w, (callFunc f args).run Tryz.prog w = .ok (.enter f args) w) (ts : List T) (n₀ : Nat) (a : Option Addr) (c : Nat) (w : World) (hn : n₀ ≤ w.heap.size) (hA : IsArgs n₀ w ts a c)
    (hp : PredT f lb p ts n₀ w) :
    Calls Tryz.prog 108 #[.slice a ts.length c, .func (.func f) #[] lb] w fun e w' => ∃ j : Int, e = .returned (.int .i64 j) ∧ decide (0 ≤ j) = ts.any p ∧ Below w.heap.size w w' := by
  have hlc : ts.length ≤ c ∧ c ≤ maxLen := ⟨hA.1, hA.2.1⟩
  unfold maxLen at hlc
  obtain ⟨hl1, hl2⟩ := hlc
  have HA := Lib.hid hA
  have HP := Lib.hid hp
  clear hA hp
  go_enter Tryz.func108, Tryz.ntmps108
  go_wp2
  go_loopw [8] (fun i wr => IdxT p ts w i wr) (fun i _ => ts.length - (intOf i).toNat)
  case atStart => exact ⟨0, Nat.zero_le _, rfl, by simp, Below.refl _ _⟩
  case round =>
    obtain ⟨k, hk, rfl, hbd, hB⟩ := hrel
    have HBD := Lib.hid hbd
    have HB := Lib.hid hB
    have hbz := hB.size
    clear hbd hB
    by_cases hlt : k < ts.length
    · obtain ⟨b, o, s, a', c', rfl, hbn, hs, hswf, hc1, hc2, hA'⟩ := (HA.out.below (HB.out.mono hn)).elem (i := k) hlt
      have hk0 : (0 : Int) ≤ (k : Int) := Int.natCast_nonneg _
      have hk1 : (k : Int) < (ts.length : Int) := by omega
      have hbw : b < wr.heap.size := by omega
      have hcall := HP.out wr s a' c' (List.mem_of_getElem? hs) HB.out hswf hA'
      have hst : (ts.drop k).any p = (p s || (ts.drop (k + 1)).any p) := by
        obtain ⟨hkl, hke⟩ := List.getElem?_eq_some_iff.1 hs
        rw [List.drop_eq_getElem_cons hkl, hke]; rfl
      have HSTEP := Lib.hid hst
      clear hs hswf hA' hst
      cases hd : p s with
      | false =>
        rw [hd] at hcall
        have H0 := Lib.hid (show (ts.drop k).any p = (ts.drop (k + 1)).any p from by rw [HSTEP.out, hd]; rfl)
        clear hd
        go_wp2_with (go_at_fn f; refine hcall.mono ?_; rintro e w2 ⟨rfl, hb2⟩)
        have HB2 := Lib.hid (HB.out.trans (hb2.mono hbz))
        clear hb2
        go_roundw
        case rel => exact ⟨k + 1, by omega, by go_num, HBD.out.trans H0.out, HB2.out⟩
        case measure => simp [intOf]; omega
      | true =>
        rw [hd] at hcall
        have H0 := Lib.hid (show ts.any p = true from by rw [HBD.out, HSTEP.out, hd]; rfl)
        clear hd
        go_wp2_with (go_at_fn f; refine hcall.mono ?_; rintro e w2 ⟨rfl, hb2⟩)
        have HB2 := Lib.hid (HB.out.trans (hb2.mono hbz))
        clear hb2
        go_ret
        exact ⟨(k : Int), rfl, by rw [H0.out]; simp, HB2.out⟩
    · obtain rfl : k = ts.length := by omega
      have H0 := Lib.hid (show ts.any p = false from by rw [HBD.out, List.drop_of_length_le (Nat.le_refl _)]; rfl)
      go_wp2
      go_ret
      exact ⟨-1, rfl, by rw [H0.out]; rfl, HB.out⟩
theorem containsT_any (p : T → Bool) (f : Nat) (lb : Array Value) (eg : ∀ args w, (callFunc f args).run Tryz.prog w = .ok (.enter f args) w) (ts : List T) (n₀ : Nat) (a : Option Addr) (c : Nat) (w : World) (hn : n₀ ≤ w.heap.size) (hA : IsArgs n₀ w ts a c)
    (hp : PredT f lb p ts n₀ w) :
    Calls Tryz.prog 75 #[.slice a ts.length c, .func (.func f) #[] lb] w fun e w' => e = .returned (.bool (ts.any p)) ∧ Below w.heap.size w w' := by
  have CI := Lib.hid (indexT_any p f lb eg ts n₀ a c w hn hA hp)
  clear hA hp eg
  go_enter Tryz.func75, Tryz.ntmps75
  go_wp2_with fail
  refine CI.out.mono ?_
  rintro e w2 ⟨j, rfl, hj, hb⟩
  have HJ := Lib.hid hj
  have HB := Lib.hid hb
  clear hj hb
  go_wp2
  go_ret
  exact ⟨by rw [← HJ.out]; rfl, HB.out⟩
/-- The closure of fits. -/
theorem fits1_any (g : Sg) (ga : Option Addr) (gc : Nat) (t : T) (a : Option Addr) (c : Nat) (B : Nat) (W : World) (hB : B < W.heap.size) (hcell : W.cell? ⟨B, 0, none⟩ = some (.slice ga g.length gc))
    (hF : ∀ X, Below W.heap.size W X → Calls Tryz.prog 97 #[.slice ga g.length gc, tm t.head a t.args.length c] X fun e w' => e = .returned (.bool (fitsT g t)) ∧ Below X.heap.size X w') :
    Calls Tryz.prog 123 #[tm t.head a t.args.length c, .pointer (some ⟨B, 0, none⟩)] W fun e w' => e = .returned (.bool (!fitsT g t)) ∧ Below W.heap.size W w' := by
  have HF := Lib.hid hF
  clear hF
  have hne : B ≠ W.heap.size := by omega
  go_enter Tryz.func123, Tryz.ntmps123
  go_wp2_with fail
  refine (HF.out _ ((Below.refl _ _).alloc (Nat.le_refl _) _)).mono ?_
  rintro e w2 ⟨rfl, hb2⟩
  have HB2 := Lib.hid (((Below.refl _ W).alloc (Nat.le_refl _) _).trans (hb2.mono (by simp)))
  clear hb2
  go_wp2
  go_ret
  exact ⟨rfl, HB2.out⟩
set_option maxRecDepth 100000 in
set_option maxHeartbeats 2000000 in
theorem fits_any (g : Sg) : ∀ (N : Nat) (t : T), t.size ≤ N → ∀ (n₀ : Nat) (ga : Option Addr) (gc : Nat) (a : Option Addr) (c : Nat) (w : World), n₀ ≤ w.heap.size → IsSg n₀ w g ga gc → (Lit.int .i64 t.head).wf = true → IsArgs n₀ w t.args a c →
    Calls Tryz.prog 97 #[.slice ga g.length gc, tm t.head a t.args.length c] w fun e w' => e = .returned (.bool (fitsT g t)) ∧ Below w.heap.size w w' := by
  intro N
  induction N with
  | zero => intro t ht; have := T.size_pos t; omega
  | succ N ih =>
    intro t ht n₀ ga gc a c w hn hG hwf hA
    have IH := Lib.hid ih
    clear ih
    have HE := Lib.hid (fitsT_eq g t)
    have hlc : t.args.length ≤ c ∧ c ≤ maxLen := ⟨hA.1, hA.2.1⟩
    have hlg : g.length ≤ gc ∧ gc ≤ maxLen := ⟨hG.1, hG.2.1⟩
    unfold maxLen at hlc hlg
    obtain ⟨hl1, hl2⟩ := hlc
    obtain ⟨hl3, hl4⟩ := hlg
    have HA := Lib.hid hA
    have HG := Lib.hid hG
    have HS := Lib.hid (show ∀ s ∈ t.args, s.size ≤ N from fun s hs => by
      obtain ⟨i, hi⟩ := List.getElem?_of_mem hs
      have h1 := T.size_lt_of_mem hi
      have h2 := T.size_eq t
      omega)
    clear hA hG
    have HF := Lib.hid (show Below w.heap.size w ((w.alloc (.cells #[.slice ga g.length gc] 22)).alloc (tmCells t.head a t.args.length c)) from ((Below.refl _ w).alloc (Nat.le_refl _) _).alloc (by simp) _)
    by_cases q1 : t.head < 0
    · have hd := Lib.hid (show fitsT g t = true from by rw [HE.out]; simp [q1])
      go_enter Tryz.func97, Tryz.ntmps97
      go_wp2
      go_ret
      exact ⟨by rw [hd.out]; rfl, HF.out⟩
    by_cases q2 : t.head < (g.length : Int)
    · obtain ⟨b, o, x, rfl, hbn, hs, hxw, hc0, hc1, hc2, hc3⟩ := HG.out.elem (i := t.head.toNat) (by omega)
      have hk0 : (0 : Int) ≤ t.head := by omega
      have HAR := Lib.hid (show armOk g t.head t.args.length = decide ((t.args.length : Int) = x.ar) from by unfold armOk; rw [hs]; simp; omega)
      have hbw : b < w.heap.size := by omega
      obtain ⟨W1, hW1⟩ : ∃ W1, (w.alloc (.cells #[.slice (some ⟨b, o, none⟩) g.length gc] 22)).alloc (tmCells t.head a t.args.length c) = W1 := ⟨_, rfl⟩
      have hF1 : Below w.heap.size w W1 := by rw [← hW1]; exact HF.out
      have HF1 := Lib.hid hF1
      have hs1 : W1.heap.size = w.heap.size + 1 + 1 := by rw [← hW1]; simp
      have hg0 : W1.cell? ⟨w.heap.size, 0, none⟩ = some (.slice (some ⟨b, o, none⟩) g.length gc) := by rw [← hW1]; simp [go_sem]
      have ht0 : W1.cell? ⟨w.heap.size + 1, 0, none⟩ = some (.int .i64 t.head) := by rw [← hW1]; simp [go_sem]
      have ht1 : W1.cell? ⟨w.heap.size + 1, 1, none⟩ = some (.slice a t.args.length c) := by rw [← hW1]; simp [go_sem]
      have hx1 : W1.cell? ⟨b, o + t.head.toNat * 4 + 1, none⟩ = some (.int .i64 x.ar) := (hF1.cell (p := ⟨b, _, none⟩) hbw).trans hc1
      have HS1 := Lib.hid hs1
      by_cases q3 : (t.args.length : Int) = x.ar
      · have hd := Lib.hid (show fitsT g t = !(t.args.any fun s => !fitsT g s) from by
          rw [HE.out, HAR.out, fitsL_all]; simp [q1, q3, List.any_eq_not_all_not])
        have CT := Lib.hid (fun (n : Nat) => containsT_any (fun s => !fitsT g s) 123 #[.pointer (some ⟨w.heap.size, 0, none⟩)] (enters_of Tryz.func123 (by kernel_rfl) rfl) t.args n₀ a c
          (W1.drewN n) (show n₀ ≤ W1.heap.size from by omega) (HA.out.below ((HF1.out.trans ((bl_drew _ _).mono HF1.out.size)).mono hn))
          (fun W s a' c' hs hW hwf' hA' => by
            have hz1 := HS1.out
            have hz2 : W1.heap.size ≤ W.heap.size := hW.size
            have hW' : Below W1.heap.size W1 W := (bl_drew _ _).trans hW
            exact fits1_any g _ gc s a' c' w.heap.size W (by omega) ((hW'.cell (p := ⟨w.heap.size, 0, none⟩) (by show w.heap.size < W1.heap.size; omega)).trans hg0)
              (fun X hX => IH.out s (HS.out s hs) n₀ _ gc a' c' X (by have := hX.size; omega)
                (HG.out.below ((HF1.out.trans (hW'.mono HF1.out.size)).mono hn |>.trans (hX.mono (by omega)))) hwf' (hA'.below (hX.mono (by omega))))))
        clear hs hxw hs1 hF1
        go_enter Tryz.func97, Tryz.ntmps97
        go_wp2
        clear hW1
        go_quiet (fail)
        go_wp2_with (first | (go_at_call 75; refine (CT.out _).mono ?_; rintro e w3 ⟨rfl, hb3⟩))
        have HB3 := Lib.hid ((HF1.out.trans ((bl_drew _ _).mono HF1.out.size)).trans (hb3.mono HF1.out.size))
        clear hb3
        go_ret
        exact ⟨by rw [hd.out]; rfl, HB3.out⟩
      · have hd := Lib.hid (show fitsT g t = false from by
          rw [HE.out, HAR.out]; simp [q1, q3])
        have q4 : ((t.args.length : Int) != x.ar) = true := by simpa using q3
        clear hs hxw hs1 hF1
        go_enter Tryz.func97, Tryz.ntmps97
        go_wp2
        clear hW1
        go_quiet (fail)
        go_wp2
        go_ret
        exact ⟨by rw [hd.out]; rfl, HF1.out.trans ((bl_drew _ _).mono HF1.out.size)⟩
    · have hd := Lib.hid (show fitsT g t = false from by
        rw [HE.out]; unfold armOk
        rw [List.getElem?_eq_none (by omega)]; simp [q1])
      obtain ⟨W1, hW1⟩ : ∃ W1, (w.alloc (.cells #[.slice ga g.length gc] 22)).alloc (tmCells t.head a t.args.length c) = W1 := ⟨_, rfl⟩
      have HF1 := Lib.hid (show Below w.heap.size w W1 from by rw [← hW1]; exact HF.out)
      have hg0 : W1.cell? ⟨w.heap.size, 0, none⟩ = some (.slice ga g.length gc) := by rw [← hW1]; simp [go_sem]
      have ht0 : W1.cell? ⟨w.heap.size + 1, 0, none⟩ = some (.int .i64 t.head) := by rw [← hW1]; simp [go_sem]
      have ht1 : W1.cell? ⟨w.heap.size + 1, 1, none⟩ = some (.slice a t.args.length c) := by rw [← hW1]; simp [go_sem]
      go_enter Tryz.func97, Tryz.ntmps97
      go_wp2
      clear hW1
      go_quiet (fail)
      go_wp2
      go_ret
      exact ⟨by rw [hd.out]; rfl, HF1.out.trans ((bl_drew _ _).mono HF1.out.size)⟩
/-- The closure of anyPredicate. -/
theorem pred1_any (g : Sg) (ga : Option Addr) (gc : Nat) (t : T) (a : Option Addr) (c : Nat) (B n₀ : Nat) (W : World) (hB : B < W.heap.size) (hn : n₀ ≤ W.heap.size) (hcell : W.cell? ⟨B, 0, none⟩ = some (.slice ga g.length gc)) (hG : IsSg n₀ W g ga gc) (hft : fitsT g t = true)
    (hF : ∀ X, Below W.heap.size W X → Calls Tryz.prog 98 #[.slice ga g.length gc, .slice a t.args.length c] X fun e w' => e = .returned (.bool (predL g t.args)) ∧ Below X.heap.size X w') :
    Calls Tryz.prog 124 #[tm t.head a t.args.length c, .pointer (some ⟨B, 0, none⟩)] W fun e w' => e = .returned (.bool (predT g t)) ∧ Below W.heap.size W w' := by
  have HF := Lib.hid hF
  have HE := Lib.hid (predT_eq g t)
  have hlg : g.length ≤ gc ∧ gc ≤ maxLen := ⟨hG.1, hG.2.1⟩
  unfold maxLen at hlg
  obtain ⟨hl3, hl4⟩ := hlg
  have hne : B ≠ W.heap.size := by omega
  by_cases q1 : t.head < 0
  · have hd := Lib.hid (show predT g t = predL g t.args from by rw [HE.out]; unfold predS; simp [show ¬ 0 ≤ t.head from by omega])
    clear hF hG hft
    go_enter Tryz.func124, Tryz.ntmps124
    go_wp2_with fail
    refine (HF.out _ ((Below.refl _ _).alloc (Nat.le_refl _) _)).mono ?_
    rintro e w2 ⟨rfl, hb2⟩
    have HB2 := Lib.hid (((Below.refl _ W).alloc (Nat.le_refl _) _).trans (hb2.mono (by simp)))
    clear hb2
    go_wp2
    go_ret
    exact ⟨by rw [hd.out]; first | rfl | simp, HB2.out⟩
  · have hk : t.head.toNat < g.length := by
      have : fitsT g t = true := hft
      rw [fitsT_eq] at this
      simp [q1, armOk] at this
      obtain ⟨h1, _⟩ := this
      split at h1
      · rename_i x hx; exact (List.getElem?_eq_some_iff.1 hx).1
      · simp at h1
    have hk2 : t.head < (g.length : Int) := by omega
    have hk0 : 0 ≤ t.head := by omega
    obtain ⟨b, o, x, rfl, hbn, hs, hxw, hc0, hc1, hc2, hc3⟩ := hG.elem (i := t.head.toNat) hk
    have hbw : b < W.heap.size := by omega
    have hps : predS g t.head = x.tr := by unfold predS; rw [hs]; simp [hk0]
    clear hF hG hft hxw hs
    cases htr : x.tr with
    | true =>
      have hd := Lib.hid (show predT g t = true from by rw [HE.out, hps, htr]; rfl)
      rw [htr] at hc3
      clear hps htr
      go_enter Tryz.func124, Tryz.ntmps124
      go_wp2
      go_ret
      exact ⟨by rw [hd.out]; rfl, ((Below.refl _ W).alloc (Nat.le_refl _) _)⟩
    | false =>
      have hd := Lib.hid (show predT g t = predL g t.args from by rw [HE.out, hps, htr]; rfl)
      rw [htr] at hc3
      clear hps htr
      go_enter Tryz.func124, Tryz.ntmps124
      go_wp2_with fail
      refine (HF.out _ ((Below.refl _ _).alloc (Nat.le_refl _) _)).mono ?_
      rintro e w2 ⟨rfl, hb2⟩
      have HB2 := Lib.hid (((Below.refl _ W).alloc (Nat.le_refl _) _).trans (hb2.mono (by simp)))
      clear hb2
      go_wp2
      go_ret
      exact ⟨by rw [hd.out]; first | rfl | simp, HB2.out⟩
set_option maxRecDepth 100000 in
set_option maxHeartbeats 2000000 in
theorem predicate_any (g : Sg) : ∀ (N : Nat) (ts : List T), T.sizes ts ≤ N → (∀ t ∈ ts, fitsT g t = true ∧ bad (T.subs 1 t) = false) → ∀ (n₀ : Nat) (ga : Option Addr) (gc : Nat) (a : Option Addr) (c : Nat) (w : World), n₀ ≤ w.heap.size → IsSg n₀ w g ga gc → IsArgs n₀ w ts a c →
    Calls Tryz.prog 98 #[.slice ga g.length gc, .slice a ts.length c] w fun e w' => e = .returned (.bool (predL g ts)) ∧ Below w.heap.size w w' := by
  intro N
  induction N with
  | zero =>
    intro ts ht hf n₀ ga gc a c w hn hG hA
    have h0 : ts = [] := by cases ts with | nil => rfl | cons t ts => have := T.size_pos t; simp [T.sizes] at ht; omega
    subst h0
    have hlc : (([] : List T)).length ≤ c ∧ c ≤ maxLen := ⟨hA.1, hA.2.1⟩
    have HA := Lib.hid hA
    have HF := Lib.hid (show Below w.heap.size w (w.alloc (.cells #[.slice ga g.length gc] 22)) from (Below.refl _ w).alloc (Nat.le_refl _) _)
    have CT := Lib.hid (containsT_any (fun s => predT g s) 124 #[.pointer (some ⟨w.heap.size, 0, none⟩)] (enters_of Tryz.func124 (by kernel_rfl) rfl) [] n₀ a c
      (w.alloc (.cells #[.slice ga g.length gc] 22)) (Nat.le_trans hn HF.out.size) (HA.out.below (HF.out.mono hn)) (fun W s a' c' hs => absurd hs (by simp)))
    clear hA hG
    go_enter Tryz.func98, Tryz.ntmps98
    go_wp2_with (first | (go_at_call 75; refine CT.out.mono ?_; rintro e w3 ⟨rfl, hb3⟩))
    have HB3 := Lib.hid (HF.out.trans (hb3.mono HF.out.size))
    clear hb3
    go_ret
    exact ⟨by rw [predL_any]; rfl, HB3.out⟩
  | succ N ih =>
    intro ts ht hf n₀ ga gc a c w hn hG hA
    have IH := Lib.hid ih
    have HFT := Lib.hid hf
    clear ih hf
    have HA := Lib.hid hA
    have HG := Lib.hid hG
    have HS := Lib.hid (show ∀ s ∈ ts, T.sizes s.args ≤ N from fun s hs => by
      obtain ⟨i, hi⟩ := List.getElem?_of_mem hs
      have h1 := T.size_lt_of_mem hi
      have h2 := T.size_eq s
      omega)
    have HF := Lib.hid (show Below w.heap.size w (w.alloc (.cells #[.slice ga g.length gc] 22)) from (Below.refl _ w).alloc (Nat.le_refl _) _)
    have hlc : ts.length ≤ c ∧ c ≤ maxLen := ⟨hA.1, hA.2.1⟩
    have CT := Lib.hid (containsT_any (fun s => predT g s) 124 #[.pointer (some ⟨w.heap.size, 0, none⟩)] (enters_of Tryz.func124 (by kernel_rfl) rfl) ts n₀ a c
      (w.alloc (.cells #[.slice ga g.length gc] 22)) (Nat.le_trans hn HF.out.size) (HA.out.below (HF.out.mono hn))
      (fun W s a' c' hs hW hwf' hA' => by
        have hz1 : (w.alloc (.cells #[.slice ga g.length gc] 22)).heap.size = w.heap.size + 1 := by simp
        have hz2 := hW.size
        have hGW := HG.out.below ((HF.out.trans (hW.mono HF.out.size)).mono hn)
        refine pred1_any g ga gc s a' c' w.heap.size n₀ W (by omega) (by omega) ((hW.cell (p := ⟨w.heap.size, 0, none⟩) (by simp)).trans (by simp [go_sem])) hGW (HFT.out s hs).1 (fun X hX => ?_)
        by_cases hne : s.args = []
        · rw [hne]
          have hA0 : IsArgs n₀ X [] a' c' := by rw [hne] at hA'; exact hA'.below (hX.mono (by omega))
          have := IH.out [] (by simp [T.sizes]) (by simp) n₀ ga gc a' c' X (by have := hX.size; omega) (hGW.below (hX.mono (by omega))) hA0
          exact this
        · refine IH.out s.args (HS.out s hs) (fun u hu => ?_) n₀ ga gc a' c' X (by have := hX.size; omega) (hGW.below (hX.mono (by omega))) (hA'.below (hX.mono (by omega)))
          obtain ⟨k, hk⟩ := List.getElem?_of_mem hu
          have h1 := HFT.out s hs
          refine ⟨?_, good_arg h1.2 hk⟩
          have h2 := h1.1
          rw [fitsT_eq] at h2
          simp only [Bool.or_eq_true, decide_eq_true_eq, Bool.and_eq_true, fitsL_all, List.all_eq_true] at h2
          rcases h2 with h | h
          · exact absurd (good_var h1.2 h) hne
          · exact h.2 u hu))
    clear hA hG
    go_enter Tryz.func98, Tryz.ntmps98
    go_wp2_with (first | (go_at_call 75; refine CT.out.mono ?_; rintro e w3 ⟨rfl, hb3⟩))
    have HB3 := Lib.hid (HF.out.trans (hb3.mono HF.out.size))
    clear hb3
    go_ret
    exact ⟨by rw [predL_any]; rfl, HB3.out⟩
end Go.Proofs.YtpncmdlbmnmahaaGreat
