/- QBg: joined of Kgf, SgA, Rb0. -/
import Derived.Test.YtbdabdjpgmnejaaGreatQBd
import Derived.Test.YtbdabdjpgmnejaaGreatComp
import Derived.Test.YtbdabdjpgmnejaaGreatQBf
import Derived.Test.YtbdabdjpgmnejaaGreatQBb
import Derived.Shelf.SlicesQ.IndexFunc
import Derived.Laws.StructEq
/- Kbo's greatestFirst: a copy, sorted; the greatest first. -/
namespace Go.Proofs.YtbdabdjpgmnejaaGreat
set_option linter.unusedVariables false
set_option linter.unusedSimpArgs false
open Go.RowKit

/-- The order by which it sorts. -/
theorem swoT {α : Type} (k : α → T) : Go.Sort.SWO (ltOf fun x y => T.cmp (k y) (k x)) where
  irrefl x := by show decide (T.cmp (k x) (k x) < 0) = false; rw [T.cmp_self]; rfl
  trans x y z h1 h2 := by
    simp only [ltOf, decide_eq_true_eq] at *
    exact T.cmp_trans _ _ _ h2 h1
  ntrans x y z h1 h2 := by
    simp only [ltOf, decide_eq_false_iff_not] at *
    have e1 := T.cmp_neg (k x) (k y)
    have e2 := T.cmp_neg (k y) (k z)
    have e3 := T.cmp_neg (k x) (k z)
    have := T.cmp_le_trans (x := k z) (y := k y) (z := k x)
    intro h
    have h3 := (T.cmp_le_trans (x := k x) (y := k y) (z := k z) (by omega) (by omega)).1
    omega

set_option maxRecDepth 100000 in
theorem gf1_any (t u : T) (ht : t.size ≤ 1000000000000) (hu : u.size ≤ 1000000000000) (n₀ : Nat) (a : Option Addr) (c : Nat) (a' : Option Addr) (c' : Nat) (w : World) (hn : n₀ ≤ w.heap.size) (hwt : (Lit.int .i64 t.head).wf = true) (hwu : (Lit.int .i64 u.head).wf = true) (hA : IsArgs n₀ w t.args a c) (hA' : IsArgs n₀ w u.args a' c') :
    Calls Tryz.prog 143 #[tm t.head a t.args.length c, tm u.head a' u.args.length c'] w fun e w' => e = .returned (.int .i64 (T.cmp u t)) ∧ Below w.heap.size w w' := by
  have hF : Below w.heap.size w ((w.alloc (tmCells t.head a t.args.length c)).alloc (tmCells u.head a' u.args.length c')) := ((Below.refl _ w).alloc (Nat.le_refl _) _).alloc (by simp) _
  have HC := Lib.hid (compare_any u t hu ht n₀ a' c' a c _ (Nat.le_trans hn hF.size) hwu hwt (hA'.below (hF.mono hn)) (hA.below (hF.mono hn)))
  have HF := Lib.hid hF
  clear hF hA hA'
  go_enter Tryz.func143, Tryz.ntmps143
  go_wp2_with fail
  refine HC.out.mono ?_
  rintro e w2 ⟨rfl, hb2⟩
  have HB := Lib.hid (HF.out.trans (hb2.mono HF.out.size))
  clear hb2
  go_wp2
  go_ret
  exact ⟨rfl, HB.out⟩

/-- Sorted, the greatest first. -/
def Desc (us : List T) : Prop := us.Pairwise fun x y => 0 ≤ T.cmp x y
def GfPost (ts : List T) (w : World) (e : Ending) (w' : World) : Prop :=
  ∃ us a c, e = .returned (.slice a us.length c) ∧ us.Perm ts ∧ Desc us ∧ IsArgs w'.heap.size w' us a c ∧ (a = none → c = 0) ∧ Below w.heap.size w w'

set_option maxRecDepth 100000 in
set_option maxHeartbeats 2000000 in
theorem greatestFirst_any (ts : List T) (hts : ts.length ≤ 1000000000000) (hsz : ∀ t ∈ ts, t.size ≤ 1000000000000) (n₀ : Nat) (a : Option Addr) (c : Nat) (w : World) (hn : n₀ ≤ w.heap.size) (hA : IsArgs n₀ w ts a c) :
    Calls Tryz.prog 124 #[.slice a ts.length c] w (GfPost ts w) := by
  have HC := Lib.hid (cloneN_any ts hts n₀ a c w hn hA)
  have eg := enters_of Tryz.func143 (by kernel_rfl) rfl
  have HS := Lib.hid (fun (g cap : Nat) (W : World) (hg1 : w.heap.size ≤ g) (hg2 : g < W.heap.size) (hR : IsRow n₀ W ts g 0) (hfr : ∀ j, j < ts.length * 2 → W.frozen? ⟨g, j, none⟩ = false) =>
    sortT_any 143 eg (fun x y => T.cmp y x) swoT ts hts n₀ g cap W (by omega) hg2 hR hfr (fun x y a c a' c' X hx hy hX hxw hyw hxA hyA =>
      gf1_any x y (hsz x hx) (hsz y hy) n₀ a c a' c' X (by have := hX.size; omega) hxw hyw hxA hyA))
  have HZ := Lib.hid (fun (p : Option Addr) (cap : Nat) (W : World) => sortC_zero p cap (.func (.func 143) #[] #[]) W)
  have HAl := Lib.hid hts
  clear hA hts
  go_enter Tryz.func124, Tryz.ntmps124
  go_wp2_with fail
  refine HC.out.mono ?_
  rintro e w2 ⟨a2, c2, rfl, ⟨h1, h2, h3⟩, hb2, hnl⟩
  have HB2 := Lib.hid hb2
  have HNL := Lib.hid hnl
  clear hnl
  rcases h3 with h3 | ⟨g, cur, rfl, hg, hh, hcs, hrow⟩
  · subst h3
    have HP := Lib.hid (And.intro h1 h2)
    clear hb2 h1 h2
    go_wp2_with fail
    refine (HZ.out _ _ _).mono ?_
    rintro e w3 ⟨rfl, hw3⟩
    subst hw3
    go_wp2
    go_ret
    exact ⟨[], a2, c2, rfl, List.Perm.refl _, List.Pairwise.nil, ⟨HP.out.1, HP.out.2, .inl rfl⟩, HNL.out, HB2.out⟩
  · have hgl : g < w2.heap.size := (Array.getElem?_eq_some_iff.1 hh).1
    have HS2 := Lib.hid (HS.out g c2 w2 hg hgl hrow (fun j hj => by simp [World.frozen?, hh]))
    have HP := Lib.hid (And.intro h1 h2)
    have HG := Lib.hid hg
    clear hb2 h1 h2 hh hcs hrow hg
    go_wp2_with fail
    refine HS2.out.mono ?_
    rintro e w3 ⟨rfl, us, hp, hd, hr3, hgr⟩
    have HUS := Lib.hid (And.intro hp hd)
    have HR := Lib.hid hr3
    have HGR := Lib.hid hgr
    have HL := Lib.hid hp.length_eq
    clear hp hd hr3 hgr
    go_wp2
    go_ret
    have hb3 : Below w.heap.size w w3 := HB2.out.grown HGR.out HB2.out.size (fun k e => by cases e; exact HG.out)
    refine ⟨us, _, c2, by rw [HL.out]; rfl, HUS.out.1, HUS.out.2, ⟨by rw [HL.out]; exact HP.out.1, HP.out.2, .inr ⟨g, 0, rfl, Nat.lt_of_lt_of_le hgl HGR.out.size, HR.out.mono (Nat.le_trans hn hb3.size)⟩⟩, (fun e => by cases e), hb3⟩

end Go.Proofs.YtbdabdjpgmnejaaGreat

/- Contracts of weigh's notAllowed, Find, differentNames and Check. -/
namespace Go.Proofs
open Go.Shelf
def Tryz.idxSym_ren : Go.Shelf.Ren := ⟨fun | 6 => 119 | n => n, fun | 22 => 22 | 23 => 71 | 25 => 104 | 3 => 3 | 0 => 0 | 4 => 4 | n => n, fun | n => n⟩
theorem Tryz.idxSym : Go.Proofs.SlLaysH0.n6 Tryz.prog Tryz.idxSym_ren := {
  mixed := by kernel_rfl
  f6 := ⟨Tryz.f119.name, by decide, Tryz.func119.trans (congrArg some (by kernel_rfl))⟩
  t0 := Tryz.underlying0
  a0 := Tryz.isAgg0
  z0 := Tryz.sizeOf0
  v0 := Tryz.zeroValue0
  t3 := Tryz.underlying3
  a3 := Tryz.isAgg3
  z3 := Tryz.sizeOf3
  v3 := Tryz.zeroValue3
  t4 := Tryz.underlying4
  a4 := Tryz.isAgg4
  z4 := Tryz.sizeOf4
  v4 := Tryz.zeroValue4
  t22 := Tryz.underlying22
  a22 := Tryz.isAgg22
  z22 := Tryz.sizeOf22
  v22 := Tryz.zeroValue22
  t25 := Tryz.underlying104
  a25 := Tryz.isAgg104
  z25 := Tryz.sizeOf104
  v25 := Tryz.zeroValue104 }
def Tryz.conSym_ren : Go.Shelf.Ren := ⟨fun | 8 => 86 | 6 => 119 | n => n, fun | 22 => 22 | 23 => 71 | 25 => 104 | 4 => 4 | 3 => 3 | 0 => 0 | n => n, fun | n => n⟩
theorem Tryz.conSym : Go.Proofs.SlLaysH0.n8 Tryz.prog Tryz.conSym_ren := {
  mixed := by kernel_rfl
  f6 := ⟨Tryz.f119.name, by decide, Tryz.func119.trans (congrArg some (by kernel_rfl))⟩
  f8 := ⟨Tryz.f86.name, by decide, Tryz.func86.trans (congrArg some (by kernel_rfl))⟩
  t0 := Tryz.underlying0
  a0 := Tryz.isAgg0
  z0 := Tryz.sizeOf0
  v0 := Tryz.zeroValue0
  t3 := Tryz.underlying3
  a3 := Tryz.isAgg3
  z3 := Tryz.sizeOf3
  v3 := Tryz.zeroValue3
  t4 := Tryz.underlying4
  a4 := Tryz.isAgg4
  z4 := Tryz.sizeOf4
  v4 := Tryz.zeroValue4
  t22 := Tryz.underlying22
  a22 := Tryz.isAgg22
  z22 := Tryz.sizeOf22
  v22 := Tryz.zeroValue22
  t25 := Tryz.underlying104
  a25 := Tryz.isAgg104
  z25 := Tryz.sizeOf104
  v25 := Tryz.zeroValue104 }
end Go.Proofs
namespace Go.Proofs.YtbdabdjpgmnejaaGreat
set_option linter.unusedVariables false
set_option linter.unusedSimpArgs false
open Go.RowKit

instance : Inhabited Sy := ⟨⟨ByteArray.empty, 0, 0, false⟩⟩

theorem beq_toList_decide (a b : ByteArray) : (a.toList == b.toList) = decide (a = b) := by
  rw [ByteArray.toList_eq, ByteArray.toList_eq]
  obtain ⟨⟨x⟩⟩ := a
  obtain ⟨⟨y⟩⟩ := b
  by_cases h : x = y
  · subst h; simp
  · simp [h]

theorem tl_iff (a b : ByteArray) : a.toList = b.toList ↔ a = b := by
  have := beq_toList_decide a b
  constructor
  · intro h
    rw [h] at this
    simpa using this.symm
  · rintro rfl; rfl

/-- The closure of Find: has the symbol that name? -/
theorem find1_any (name : ByteArray) (B : Nat) (w : World) (hB : B < w.heap.size) (hcell : w.cell? ⟨B, 0, none⟩ = some (.string name)) :
    PredBelow Tryz.prog 139 #[.pointer (some ⟨B, 0, none⟩)] (fun x : Sy => .agg x.cells.toArray) (fun x => decide (x.name = name)) w := fun W x hb => by
  have hc : W.cell? ⟨B, 0, none⟩ = some (.string name) := (hb.cell (p := ⟨B, 0, none⟩) hB).trans hcell
  have hBW : B < W.heap.size := Nat.lt_of_lt_of_le hB hb.size
  have hne : B ≠ W.heap.size := by omega
  show Calls Tryz.prog 139 #[sy x, .pointer (some ⟨B, 0, none⟩)] W _
  have HB := Lib.hid hb
  clear hb
  go_enter Tryz.func139, Tryz.ntmps139
  go_wp2
  all_goals (go_ret; refine ⟨?_, HB.out.alloc HB.out.size _⟩; first | simp [beq_toList_decide] | simp_all)

theorem notAllowed_any (w : World) :
    PredBelow Tryz.prog 87 #[] (fun x : Sy => .agg x.cells.toArray) badSy w := fun W x hb => by
  show Calls Tryz.prog 87 #[sy x] W _
  have HB := Lib.hid hb
  clear hb
  have hbad : badSy x = (decide (x.name.size < 1) || decide (64 < x.name.size) || decide (x.ar < 0) || decide (8 < x.ar) || decide (x.wt < 1) || decide (1000 < x.wt)) := rfl
  rw [hbad]
  clear hbad
  by_cases q1 : x.name.size < 1
  · go_enter Tryz.func87, Tryz.ntmps87
    go_wp2
    all_goals (go_ret; refine ⟨?_, HB.out.alloc HB.out.size _⟩; first | simp [q1] | simp_all)
  by_cases q2 : 64 < x.name.size
  · go_enter Tryz.func87, Tryz.ntmps87
    go_wp2
    all_goals (go_ret; refine ⟨?_, HB.out.alloc HB.out.size _⟩; first | simp [q1, q2] | simp_all)
  by_cases q3 : x.ar < 0
  · go_enter Tryz.func87, Tryz.ntmps87
    go_wp2
    all_goals (go_ret; refine ⟨?_, HB.out.alloc HB.out.size _⟩; first | simp [q1, q2, q3] | simp_all)
  by_cases q4 : 8 < x.ar
  · go_enter Tryz.func87, Tryz.ntmps87
    go_wp2
    all_goals (go_ret; refine ⟨?_, HB.out.alloc HB.out.size _⟩; first | simp [q1, q2, q3, q4] | simp_all)
  by_cases q5 : x.wt < 1
  · go_enter Tryz.func87, Tryz.ntmps87
    go_wp2
    all_goals (go_ret; refine ⟨?_, HB.out.alloc HB.out.size _⟩; first | simp [q1, q2, q3, q4, q5] | simp_all)
  by_cases q6 : 1000 < x.wt
  · go_enter Tryz.func87, Tryz.ntmps87
    go_wp2
    all_goals (go_ret; refine ⟨?_, HB.out.alloc HB.out.size _⟩; first | simp [q1, q2, q3, q4, q5, q6] | simp_all)
  · go_enter Tryz.func87, Tryz.ntmps87
    go_wp2
    all_goals (go_ret; refine ⟨?_, HB.out.alloc HB.out.size _⟩; simp [show ¬ ((x.name.size : Int) < 1) from by omega, show ¬ (64 < (x.name.size : Int)) from by omega, show ¬ (x.ar < 0) from by omega, show ¬ (8 < x.ar) from by omega, show ¬ (x.wt < 1) from by omega, show ¬ (1000 < x.wt) from by omega, q1, q2, q3, q4, q5, q6])

/-- The library's IndexFunc and ContainsFunc at symbols, whatever the predicate. -/
theorem indexSy_any (p : Sy → Bool) (f : Nat) (lb : Array Value) (eg : ∀ args w, (callFunc f args).run Tryz.prog w = .ok (.enter f args) w) (g : Sg) (n₀ : Nat) (a : Option Addr) (c : Nat) (w : World) (hn : n₀ ≤ w.heap.size) (hG : IsSg n₀ w g a c)
    (hp : PredBelow Tryz.prog f lb (fun x : Sy => .agg x.cells.toArray) p w) (hg : 0 < g.length) :
    Calls Tryz.prog 119 #[.slice a g.length c, .func (.func f) #[] lb] w fun e w' => e = .returned (.int .i64 (Lib.idxBy (fun _ y => p y) g default)) ∧ Below w.heap.size w w' := by
  obtain ⟨h1, h2, h3⟩ := hG
  rcases h3 with rfl | ⟨b, o, rfl, hb, hr⟩
  · simp at hg
  · have h := AnyQ.slices_IndexFunc Tryz.idxSym 4 Tryz.isAgg71 Tryz.sizeOf71 Sy.cells (fun _ => rfl) p f lb eg b o g.length c g w hp (Nat.le_refl _) (by unfold maxLen at h2; omega) (by omega)
      (fun j hj i v hv => by
        have hx := hr j g[j] (List.getElem?_eq_getElem hj)
        rw [getElem!_pos g j hj] at hv
        generalize g[j] = x at hx hv
        obtain ⟨_, q0, q1, q2, q3⟩ := hx
        match i, hv with
        | 0, hv => simp [Sy.cells] at hv; rw [← hv]; exact q0
        | 1, hv => simp [Sy.cells] at hv; rw [← hv]; exact q1
        | 2, hv => simp [Sy.cells] at hv; rw [← hv]; exact q2
        | 3, hv => simp [Sy.cells] at hv; rw [← hv]; exact q3
        | i + 4, hv => simp [Sy.cells] at hv)
    rw [List.take_length] at h
    exact h

theorem containsBad_any (g : Sg) (n₀ : Nat) (a : Option Addr) (c : Nat) (w : World) (hn : n₀ ≤ w.heap.size) (hG : IsSg n₀ w g a c) (hg : 0 < g.length) :
    Calls Tryz.prog 86 #[.slice a g.length c, .func (.func 87) #[] #[]] w fun e w' => e = .returned (.bool (g.any badSy)) ∧ Below w.heap.size w w' := by
  obtain ⟨h1, h2, h3⟩ := hG
  rcases h3 with rfl | ⟨b, o, rfl, hb, hr⟩
  · simp at hg
  · have h := AnyQ.slices_ContainsFunc Tryz.conSym 4 Tryz.isAgg71 Tryz.sizeOf71 Sy.cells (fun _ => rfl) badSy 87 #[] (enters_of Tryz.func87 (by kernel_rfl) rfl) b o g.length c g w (notAllowed_any w) (Nat.le_refl _) (by unfold maxLen at h2; omega) (by omega)
      (fun j hj i v hv => by
        have hx := hr j g[j] (List.getElem?_eq_getElem hj)
        rw [getElem!_pos g j hj] at hv
        generalize g[j] = x at hx hv
        obtain ⟨_, q0, q1, q2, q3⟩ := hx
        match i, hv with
        | 0, hv => simp [Sy.cells] at hv; rw [← hv]; exact q0
        | 1, hv => simp [Sy.cells] at hv; rw [← hv]; exact q1
        | 2, hv => simp [Sy.cells] at hv; rw [← hv]; exact q2
        | 3, hv => simp [Sy.cells] at hv; rw [← hv]; exact q3
        | i + 4, hv => simp [Sy.cells] at hv)
    rw [List.take_length] at h
    exact h

theorem idxBy_sy (name : ByteArray) (g : Sg) : Lib.idxBy (fun _ (y : Sy) => decide (y.name = name)) g default = match idxSy name g with
    | some i => (i : Int)
    | none => -1 := by
  cases h : idxSy name g with
  | none =>
    have h1 := idxSy_none h
    have := Lib.idxBy_miss (fun _ (y : Sy) => decide (y.name = name)) g g.length default (fun j hj => by
      rw [getElem!_pos g j hj]
      simpa using h1 g[j] (List.getElem_mem hj))
    rw [List.take_length] at this
    exact this
  | some i =>
    obtain ⟨x, h1, h2, h3⟩ := idxSy_get h
    obtain ⟨hi, e⟩ := List.getElem?_eq_some_iff.1 h1
    have := Lib.idxBy_hit (fun _ (y : Sy) => decide (y.name = name)) g g.length i default hi (Nat.le_refl _) (by rw [getElem!_pos g i hi, e]; simpa using h2) (fun j hj => by
      have hjl : j < g.length := by omega
      rw [getElem!_pos g j hjl]
      simpa using h3 j g[j] hj (List.getElem?_eq_getElem hjl))
    rw [List.take_length] at this
    exact this

/-- What Find returns. -/
def findV (name : ByteArray) (g : Sg) : Value := match idxSy name g with
  | some i => .tuple #[.int .i64 (i : Int), .bool true]
  | none => .tuple #[.int .i64 0, .bool false]
theorem find_any (name : ByteArray) (g : Sg) (hg : 0 < g.length) (n₀ : Nat) (a : Option Addr) (c : Nat) (w : World) (hn : n₀ ≤ w.heap.size) (hG : IsSg n₀ w g a c) :
    Calls Tryz.prog 120 #[.slice a g.length c, .string name] w fun e w' => e = .returned (findV name g) ∧ Below w.heap.size w w' := by
  have hlc : g.length ≤ c ∧ c ≤ maxLen := ⟨hG.1, hG.2.1⟩
  unfold maxLen at hlc
  obtain ⟨hl1, hl2⟩ := hlc
  have eg : ∀ args w, (callFunc 139 args).run Tryz.prog w = .ok (.enter 139 args) w := enters_of Tryz.func139 (by kernel_rfl) rfl
  have CI := Lib.hid (indexSy_any (fun y => decide (y.name = name)) 139 #[.pointer (some ⟨w.heap.size, 0, none⟩)] eg g n₀ a c (w.alloc (.cells #[.string name] 9)) (by simp; omega)
    (hG.below ((Below.refl _ _).alloc hn _)) (find1_any name w.heap.size _ (by simp) (by simp)) hg)
  have HI := Lib.hid (idxBy_sy name g)
  have HG := Lib.hid (show ∀ i, idxSy name g = some i → i < g.length from fun i hi => by
    obtain ⟨x, h1, _⟩ := idxSy_get hi
    exact (List.getElem?_eq_some_iff.1 h1).1)
  clear hG eg
  unfold findV
  generalize Lib.idxBy (fun _ (y : Sy) => decide (y.name = name)) g default = r at *
  cases hx : idxSy name g with
  | none =>
    have hr : r = -1 := by have := HI.out; rw [hx] at this; exact this
    subst hr
    clear hx
    go_enter Tryz.func120, Tryz.ntmps120
    go_wp2_with fail
    refine CI.out.mono ?_
    rintro e w2 ⟨rfl, hb2⟩
    have HB2 := Lib.hid (((Below.refl _ w).alloc (Nat.le_refl _) _).trans (hb2.mono (by simp)))
    clear hb2
    go_wp2
    refine bodyPost_ret (v := .tuple #[.int .i64 0, .bool false]) (by simp [results, Tryz.results120, go_sem] <;> decide) rfl ?_
    exact ⟨rfl, HB2.out⟩
  | some i =>
    have hr : r = (i : Int) := by have := HI.out; rw [hx] at this; exact this
    have hil := HG.out i hx
    subst hr
    clear hx
    go_enter Tryz.func120, Tryz.ntmps120
    go_wp2_with fail
    refine CI.out.mono ?_
    rintro e w2 ⟨rfl, hb2⟩
    have HB2 := Lib.hid (((Below.refl _ w).alloc (Nat.le_refl _) _).trans (hb2.mono (by simp)))
    clear hb2
    go_wp2
    refine bodyPost_ret (v := .tuple #[.int .i64 (i : Int), .bool true]) (by simp [results, Tryz.results120, go_sem]) rfl ?_
    exact ⟨rfl, HB2.out⟩

def DifI (g : Sg) (w : World) (i : Value) (wr : World) : Prop := ∃ k : Nat, k ≤ g.length ∧ i = .int .i64 k ∧ (∀ j x, j < k → g[j]? = some x → idxSy x.name g = some j) ∧ Below w.heap.size w wr

set_option maxRecDepth 100000 in
set_option maxHeartbeats 2000000 in
theorem different_any (g : Sg) (hg : 0 < g.length) (n₀ : Nat) (a : Option Addr) (c : Nat) (w : World) (hn : n₀ ≤ w.heap.size) (hG : IsSg n₀ w g a c) :
    Calls Tryz.prog 88 #[.slice a g.length c] w fun e w' => e = .returned (.bool (difSg g)) ∧ Below w.heap.size w w' := by
  have hlc : g.length ≤ c ∧ c ≤ maxLen := ⟨hG.1, hG.2.1⟩
  unfold maxLen at hlc
  obtain ⟨hl1, hl2⟩ := hlc
  have HS := Lib.hid hG
  clear hG
  go_enter Tryz.func88, Tryz.ntmps88
  go_wp2
  go_loopw [9] (fun i wr => DifI g w i wr) (fun i _ => g.length - (intOf i).toNat)
  case atStart => exact ⟨0, Nat.zero_le _, rfl, fun j x hj => by omega, Below.refl _ _⟩
  case round =>
    obtain ⟨k, hk, rfl, hbd, hB⟩ := hrel
    have HBD := Lib.hid hbd
    have HB := Lib.hid hB
    have hbz := hB.size
    clear hbd hB
    by_cases hlt : k < g.length
    · obtain ⟨b, o, x, rfl, hbn, hs, hxw, hc0, hc1, hc2, hc3⟩ := (HS.out.below (HB.out.mono hn)).elem (i := k) hlt
      have hk0 : (0 : Int) ≤ (k : Int) := Int.natCast_nonneg _
      have hk1 : (k : Int) < (g.length : Int) := by omega
      have hbw : b < wr.heap.size := by omega
      have HXK := Lib.hid hs
      have CF := Lib.hid (fun (W : World) (hW : Below w.heap.size w W) => find_any x.name g hg n₀ (some ⟨b, o, none⟩) c W (Nat.le_trans hn hW.size) (HS.out.below (hW.mono hn)))
      clear hs hxw
      cases hx : idxSy x.name g with
      | none => 
        have := idxSy_none hx x (List.mem_of_getElem? HXK.out)
        exact absurd rfl this
      | some i =>
      have HX := Lib.hid hx
      have hil : i < g.length := by obtain ⟨y, h1, _⟩ := idxSy_get hx; exact (List.getElem?_eq_some_iff.1 h1).1
      have hfv : findV x.name g = .tuple #[.int .i64 (i : Int), .bool true] := by unfold findV; rw [hx]
      rw [hfv] at CF
      clear hfv hx
      go_wp2_with fail
      refine (CF.out _ (by first | exact HB.out.alloc HB.out.size _ | exact (HB.out.alloc HB.out.size _).alloc (by simp; omega) _)).mono ?_
      rintro e w2 ⟨rfl, hb2⟩
      have HB2 := Lib.hid ((HB.out.alloc HB.out.size _).trans (hb2.mono (by simp; omega)))
      clear hb2
      by_cases hik : i = k
      · subst hik
        go_wp2
        go_roundw
        case rel =>
          refine ⟨i + 1, by omega, by go_num, fun j y hj hy => ?_, HB2.out⟩
          by_cases e : j = i
          · subst e
            rw [HXK.out] at hy
            obtain rfl := Option.some.inj hy
            exact HX.out
          · exact HBD.out j y (by omega) hy
        case measure => simp [intOf]; omega
      · have hik' : ¬ ((i : Int) = (k : Int)) := by omega
        have HD := Lib.hid (show difSg g = false from by
          have h1 : ¬ (∀ j, j < g.length → ∀ y, g[j]? = some y → idxSy y.name g = some j) := fun h => by
            have := h k hlt x HXK.out
            rw [HX.out] at this
            exact hik (Option.some.inj this)
          cases hd : difSg g with
          | false => rfl
          | true =>
            exfalso
            apply h1
            intro j hj y hy
            have := List.all_eq_true.1 hd j (List.mem_range.2 hj)
            simpa [hy] using this)
        go_wp2
        go_ret
        exact ⟨by rw [HD.out]; rfl, HB2.out⟩
    · obtain rfl : k = g.length := by omega
      have HD := Lib.hid (show difSg g = true from List.all_eq_true.2 fun j hj => by
        have hj := List.mem_range.1 hj
        have := HBD.out j g[j] hj (List.getElem?_eq_getElem hj)
        simp [List.getElem?_eq_getElem hj, this])
      go_wp2
      go_ret
      exact ⟨by rw [HD.out]; rfl, HB.out⟩

theorem neqSym (x y : Sy) (w : World) : Sem.run Tryz.prog (binOp .neq 71 (sy x) (sy y)) w = .ok (.bool (decide (x ≠ y))) w := by
  have hS : Tryz.prog.underlying 71 = some (.struct (Tryz.prog.fieldsOf 71)) := by kernel_rfl
  have hp : Tryz.prog.stoodInHeld 71 = false := by kernel_rfl
  have a1 := Tryz.isAgg9
  have z1 := Tryz.sizeOf9
  have u1 := Tryz.underlying9
  have a3 := Tryz.isAgg3
  have z3 := Tryz.sizeOf3
  have u3 := Tryz.underlying3
  have a4 := Tryz.isAgg4
  have z4 := Tryz.sizeOf4
  have u4 := Tryz.underlying4
  rw [run_neq_struct, show (10000 : Nat) = 9999 + 1 from rfl, run_equalIn_agg w 9999 71 _ _ hS hp]
  simp only [Program.fieldsOf, Tryz.underlying71]
  go_simp
  obtain ⟨n1, a1, t1, r1⟩ := x
  obtain ⟨n2, a2, t2, r2⟩ := y
  simp only [tl_iff, Sy.mk.injEq]
  by_cases h1 : n1 = n2 <;> by_cases h2 : a1 = a2 <;> by_cases h3 : t1 = t2 <;> by_cases h4 : r1 = r2 <;> simp [h1, h2, h3, h4]

set_option maxRecDepth 100000 in
set_option maxHeartbeats 2000000 in
theorem sgCheck_any (g : Sg) (n₀ : Nat) (a : Option Addr) (c : Nat) (w : World) (hn : n₀ ≤ w.heap.size) (hG : IsSg n₀ w g a c) :
    Calls Tryz.prog 50 #[.slice a g.length c] w fun e w' => e = .returned (.int .i64 (errG g)) ∧ Below w.heap.size w w' := by
  have hlc : g.length ≤ c ∧ c ≤ maxLen := ⟨hG.1, hG.2.1⟩
  unfold maxLen at hlc
  obtain ⟨hl1, hl2⟩ := hlc
  have HG := Lib.hid hG
  clear hG
  by_cases q1 : g.length < 1
  · have HE := Lib.hid (show errG g = 1 from by unfold errG rightG; simp [show ¬ 1 ≤ g.length from by omega])
    go_enter Tryz.func50, Tryz.ntmps50
    go_wp2
    go_ret
    exact ⟨by rw [HE.out]; rfl, Below.refl _ _⟩
  by_cases q2 : 256 < g.length
  · have HE := Lib.hid (show errG g = 1 from by unfold errG rightG; simp [show ¬ g.length ≤ 256 from by omega])
    go_enter Tryz.func50, Tryz.ntmps50
    go_wp2
    go_ret
    exact ⟨by rw [HE.out]; rfl, Below.refl _ _⟩
  obtain ⟨b, o, x, rfl, hbn, hs, hxw, hc0, hc1, hc2, hc3⟩ := HG.out.elem (i := 0) (by omega)
  simp only [Nat.zero_mul, Nat.add_zero] at hc0 hc1 hc2 hc3
  have hgd := fun (op : BinOp) (p q : Operand) (u v : Array Value) (W : World) => run_eqGuard_agg (P := Tryz.prog) W op 71 p q u v (by kernel_rfl)
  have h0 : (decide (g[0]? = some sy0)) = decide (x = sy0) := by rw [hs]; simp
  have HS := Lib.hid h0
  clear h0 hs
  by_cases q3 : x = sy0
  · have q3x := q3
    have hneq : ∀ W, Sem.run Tryz.prog (binOp .neq 71 (.agg #[.string x.name, .int .i64 x.ar, .int .i64 x.wt, .bool x.tr]) (.agg #[.string ⟨#[36, 116, 114, 117, 101]⟩, .int .i64 0, .int .i64 1, .bool true])) W = .ok (.bool false) W := fun W => (neqSym x sy0 W).trans (by simp [q3])
    have H3 := Lib.hid (show decide (g[0]? = some sy0) = true from by rw [HS.out, q3]; simp)
    have CB := Lib.hid (containsBad_any g n₀ (some ⟨b, o, none⟩) c w hn HG.out (by omega))
    have CD := Lib.hid (fun (W : World) (hW : Below w.heap.size w W) => different_any g (by omega) n₀ (some ⟨b, o, none⟩) c W (Nat.le_trans hn hW.size) (HG.out.below (hW.mono hn)))
    clear q3 q3x
    go_enter Tryz.func50, Tryz.ntmps50
    go_wp2_with fail
    refine CB.out.mono ?_
    rintro e w2 ⟨rfl, hb2⟩
    have HB2 := Lib.hid hb2
    clear hb2
    cases hA : g.any badSy with
    | true =>
      have HE := Lib.hid (show errG g = 1 from by unfold errG rightG; rw [hA]; simp)
      clear hA
      go_wp2
      go_ret
      exact ⟨by rw [HE.out]; rfl, HB2.out⟩
    | false =>
      have HA := Lib.hid hA
      clear hA
      go_wp2_with fail
      refine (CD.out _ HB2.out).mono ?_
      rintro e w3 ⟨rfl, hb3⟩
      have HB3 := Lib.hid (HB2.out.trans (hb3.mono HB2.out.size))
      clear hb3
      cases hD : difSg g with
      | true =>
        have HE := Lib.hid (show errG g = 0 from by unfold errG rightG; rw [H3.out, HA.out, hD]; simp; omega)
        clear hD
        go_wp2
        go_ret
        exact ⟨by rw [HE.out]; rfl, HB3.out⟩
      | false =>
        have HE := Lib.hid (show errG g = 1 from by unfold errG rightG; rw [hD]; simp)
        clear hD
        go_wp2
        go_ret
        exact ⟨by rw [HE.out]; rfl, HB3.out⟩
  · have q3x := q3
    have hneq : ∀ W, Sem.run Tryz.prog (binOp .neq 71 (.agg #[.string x.name, .int .i64 x.ar, .int .i64 x.wt, .bool x.tr]) (.agg #[.string ⟨#[36, 116, 114, 117, 101]⟩, .int .i64 0, .int .i64 1, .bool true])) W = .ok (.bool true) W := fun W => (neqSym x sy0 W).trans (by simp [q3])
    have HE := Lib.hid (show errG g = 1 from by unfold errG rightG; rw [HS.out]; simp [q3])
    clear q3 q3x
    go_enter Tryz.func50, Tryz.ntmps50
    go_wp2
    go_ret
    exact ⟨by rw [HE.out]; rfl, Below.refl _ _⟩

end Go.Proofs.YtbdabdjpgmnejaaGreat

/- Rb0: of RCk, the plain lemmas on depth and on bad subterms. -/
namespace Go.Proofs.YtbdabdjpgmnejaaGreat
set_option linter.unusedVariables false
set_option linter.unusedSimpArgs false
open Go.RowKit

theorem T.depth_eq (t : T) : t.depth = 1 + T.depths t.args := by cases t; simp [T.depth, T.args]; omega
theorem T.depths_append (a b : List T) : T.depths (a ++ b) = max (T.depths a) (T.depths b) := by
  induction a with
  | nil => simp [T.depths]
  | cons t ts ih => simp only [List.cons_append, T.depths, ih]; omega
theorem T.depths_take {ts : List T} {i : Nat} {t : T} (h : ts[i]? = some t) : T.depths (ts.take (i + 1)) = max (T.depths (ts.take i)) t.depth := by
  obtain ⟨hi, e⟩ := List.getElem?_eq_some_iff.1 h
  rw [List.take_succ_eq_append_getElem hi, T.depths_append, e]; simp [T.depths]
mutual
theorem T.depth_le_size : (t : T) → t.depth ≤ t.size
  | .node h ts => by simp only [T.depth, T.size]; have := T.depths_le_sizes ts; omega
theorem T.depths_le_sizes : (ts : List T) → T.depths ts ≤ T.sizes ts
  | [] => by simp [T.depths, T.sizes]
  | t :: ts => by simp only [T.depths, T.sizes]; have := T.depth_le_size t; have := T.depths_le_sizes ts; omega
end

theorem bad_eq (t : T) : bad (T.subs 1 t) = (!okB t.head t.args.length || bad (T.subss 2 t.args)) := by rw [T.subs_eq]; rfl
mutual
theorem bad_level (l l' : Nat) : (t : T) → bad (T.subs l t) = bad (T.subs l' t)
  | .node h ts => by
    have := bads_level (l + 1) (l' + 1) ts
    simp only [bad, T.subs, List.any_cons] at this ⊢
    rw [this]
theorem bads_level (l l' : Nat) : (ts : List T) → bad (T.subss l ts) = bad (T.subss l' ts)
  | [] => rfl
  | t :: ts => by
    have h1 := bad_level l l' t
    have h2 := bads_level l l' ts
    simp only [bad, T.subss, List.any_append] at h1 h2 ⊢
    rw [h1, h2]
end
theorem bads_take {ts : List T} {i : Nat} {t : T} (h : ts[i]? = some t) : bad (T.subss 2 (ts.take (i + 1))) = (bad (T.subss 2 (ts.take i)) || bad (T.subs 1 t)) := by
  obtain ⟨hi, e⟩ := List.getElem?_eq_some_iff.1 h
  have happ : ∀ (a b : List T), bad (T.subss 2 (a ++ b)) = (bad (T.subss 2 a) || bad (T.subss 2 b)) := by
    intro a b
    induction a with
    | nil => simp [T.subss, bad]
    | cons t ts ih => simp only [List.cons_append, T.subss, bad, List.any_append] at ih ⊢; rw [ih, Bool.or_assoc]
  rw [List.take_succ_eq_append_getElem hi, happ, e]
  congr 1
  rw [bad_level 1 2 t]
  simp [T.subss]
theorem bads_mem {ts : List T} {i : Nat} {t : T} (h : ts[i]? = some t) (hb : bad (T.subs 1 t) = true) : bad (T.subss 2 ts) = true := by
  have h1 := bads_take h
  rw [hb, Bool.or_true] at h1
  have happ : ∀ (a b : List T), bad (T.subss 2 a) = true → bad (T.subss 2 (a ++ b)) = true := by
    intro a b
    induction a with
    | nil => simp [T.subss, bad]
    | cons t ts ih =>
      simp only [List.cons_append, T.subss, bad, List.any_append, Bool.or_eq_true] at ih ⊢
      rintro (h | h)
      · exact .inl h
      · exact .inr (ih h)
  have := happ _ (ts.drop (i + 1)) h1
  rwa [List.take_append_drop] at this

theorem good_arg {t s : T} {k : Nat} (h : bad (T.subs 1 t) = false) (hs : t.args[k]? = some s) : bad (T.subs 1 s) = false := by
  rw [bad_eq, Bool.or_eq_false_iff] at h
  cases hb : bad (T.subs 1 s)
  · rfl
  · have := bads_mem hs hb
    rw [h.2] at this
    cases this
theorem good_head {t : T} (h : bad (T.subs 1 t) = false) : okB t.head t.args.length = true := by
  rw [bad_eq, Bool.or_eq_false_iff] at h
  simpa using h.1
theorem good_var {t : T} (h : bad (T.subs 1 t) = false) (hn : t.head < 0) : t.args = [] := by
  have := good_head h
  simp [okB, hn] at this
  exact this.1

theorem check_ok {t : T} (h : t.check = 0) : t.size ≤ 400 ∧ t.depth ≤ 40 ∧ bad (T.subs 1 t) = false := by
  unfold T.check at h
  by_cases q1 : 400 < t.size
  · rw [if_pos q1] at h; cases h
  · rw [if_neg q1] at h
    by_cases q2 : 40 < t.depth
    · rw [if_pos q2] at h; cases h
    · rw [if_neg q2] at h
      cases hb : bad (T.subs 1 t)
      · exact ⟨by omega, by omega, rfl⟩
      · rw [hb] at h; cases h

end Go.Proofs.YtbdabdjpgmnejaaGreat
