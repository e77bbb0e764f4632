/- QBj: joined of In0, Lex, Qt0, Ec, Lck. -/
import Derived.Test.YtbdabdjpgmnejaaQBa
import Derived.Test.YtbdabdjpgmnejaaQBb
import Derived.Lib.QuietBelow
import Derived.Deep.QuietTactic
import Derived.BigQuiet
import Derived.Test.YtbdabdjpgmnejaaQBc
import Derived.Test.YtbdabdjpgmnejaaQBg
import Derived.Deep.CutRange
import Derived.Test.YtbdabdjpgmnejaaQBf
import Derived.Test.YtbdabdjpgmnejaaQBe
import Derived.Test.YtbdabdjpgmnejaaQBd
/- In0: of Ints, the contract of the reference's Ints. -/
namespace Go.Proofs.Ytbdabdjpgmnejaa
set_option linter.unusedVariables false
set_option linter.unusedSimpArgs false
open Go.RowKit
theorem take_eq_all {α : Type} {zs ys : List α} (hl : zs.length = ys.length) (h : zs.take zs.length = ys.take zs.length) : zs = ys := by
  rwa [List.take_length, hl, List.take_length] at h
theorem take_succ_eq {α : Type} {zs ys : List α} {k : Nat} {x : α} (h : zs.take k = ys.take k) (hz : zs[k]? = some x) (hy : ys[k]? = some x) : zs.take (k + 1) = ys.take (k + 1) := by
  obtain ⟨h1, e1⟩ := List.getElem?_eq_some_iff.1 hz
  obtain ⟨h2, e2⟩ := List.getElem?_eq_some_iff.1 hy
  rw [List.take_succ_eq_append_getElem h1, List.take_succ_eq_append_getElem h2, h, e1, e2]
def IntsI (zs ys : List Int) (w : World) (i : Value) (wr : World) : Prop := ∃ k : Nat, k ≤ zs.length ∧ i = .int .i64 k ∧ zs.take k = ys.take k ∧ Below w.heap.size w wr
set_option maxHeartbeats 1000000 in
theorem ints_any (zs ys : List Int) (n₀ : Nat) (a : Option Addr) (c : Nat) (a' : Option Addr) (c' : Nat) (w : World) (hn : n₀ ≤ w.heap.size) (hZ : IsIs n₀ w zs a c) (hY : IsIs n₀ w ys a' c') :
    Calls Try.prog 23 #[.slice a zs.length c, .slice a' ys.length c'] w fun e w' => e = .returned (.bool (decide (zs = ys))) ∧ Below w.heap.size w w' := by
  have hz : zs.length ≤ c ∧ c ≤ maxLen := ⟨hZ.1, hZ.2.1⟩
  have hy : ys.length ≤ c' ∧ c' ≤ maxLen := ⟨hY.1, hY.2.1⟩
  unfold maxLen at hz hy
  obtain ⟨hz1, hz2⟩ := hz
  obtain ⟨hy1, hy2⟩ := hy
  have HZ := Lib.hid hZ
  have HY := Lib.hid hY
  clear hZ hY
  by_cases hl : zs.length = ys.length
  · have hl1 : ((zs.length : Int) != (ys.length : Int)) = false := by simp; omega
    have hl2 : (zs.length != ys.length) = false := by simp; omega
    have HL := Lib.hid hl
    clear hl
    go_enter Try.func23, Try.ntmps23
    go_wp2
    go_loopw [5] (fun i wr => IntsI zs ys w i wr) (fun i _ => zs.length - (intOf i).toNat)
    case atStart => exact ⟨0, Nat.zero_le _, rfl, rfl, Below.refl _ _⟩
    case round =>
      obtain ⟨k, hk, rfl, htk, hB⟩ := hrel
      have HTK := Lib.hid htk
      have HB := Lib.hid hB
      clear htk
      by_cases hlt : k < zs.length
      · obtain ⟨b, o, z, rfl, hb, hzk, hcz⟩ := (HZ.out.below (hB.mono hn)).elem hlt
        obtain ⟨b', o', y, rfl, hb', hyk, hcy⟩ := (HY.out.below (hB.mono hn)).elem (k := k) (by have := HL.out; omega)
        have HZK := Lib.hid hzk
        have HYK := Lib.hid hyk
        have hlt' : k < ys.length := by have := HL.out; omega
        clear hzk hyk hB
        by_cases e : z = y
        · subst e
          go_wp2
          go_quiet (fail)
          go_wp2
          go_roundw
          case rel => exact ⟨k + 1, by omega, by go_num, take_succ_eq HTK.out HZK.out HYK.out, HB.out.trans (⟨rfl, rfl, rfl, Nat.le_refl _, fun _ _ => rfl⟩)⟩
          case measure => simp [intOf]; omega
        · have e1 : (z != y) = true := by simpa using e
          go_wp2
          go_quiet (fail)
          go_wp2
          go_ret
          refine ⟨?_, HB.out.trans (⟨rfl, rfl, rfl, Nat.le_refl _, fun _ _ => rfl⟩)⟩
          rw [decide_eq_false (fun h => e (by have h1 := HZK.out; rw [h, HYK.out] at h1; exact (Option.some.inj h1).symm))]; rfl
      · obtain rfl : k = zs.length := by omega
        clear hB
        go_wp2
        go_ret
        refine ⟨?_, HB.out⟩
        rw [decide_eq_true (take_eq_all HL.out HTK.out)]; rfl
  · have hl1 : ((zs.length : Int) != (ys.length : Int)) = true := by simp; omega
    have hl2 : (zs.length != ys.length) = true := by simp; omega
    go_enter Try.func23, Try.ntmps23
    go_wp2
    go_ret
    refine ⟨?_, Below.refl _ _⟩
    rw [decide_eq_false (fun h => hl (by rw [h]))]; rfl
end Go.Proofs.Ytbdabdjpgmnejaa

/- Contracts of the document's answer: Exact and Few of literals (layer 9). -/
namespace Go.Proofs.Ytbdabdjpgmnejaa
set_option linter.unusedVariables false
set_option linter.unusedSimpArgs false
open Go.RowKit
set_option maxRecDepth 100000 in
set_option maxHeartbeats 2000000 in
/-- Two literals that are the same, side by side. -/
theorem exactAt_any (x y : LV) (en : y.n = x.n) (el : x.l = y.l) (er : x.r = y.r) (hx : x.sz) (n₀ : Nat) (w : World) (hn : n₀ ≤ w.heap.size) (hX : IsLv n₀ w x) (hY : IsLv n₀ w y) :
    Calls Try.prog 6 #[x.v, y.v] w fun e w' => e = .returned (.bool true) ∧ Below w.heap.size w w' := by
  have d0 := (((((Later.below (Below.refl _ w)).and (later_lv (hY.mono hn))).and (later_lv (hX.mono hn))).pushL (Below.refl _ _) x).pushL (Below.refl _ _) y)
  have C1 := Lib.hid (fun (W : World) (hX : IsLv W.heap.size W x) (hY : IsLv W.heap.size W y) => sameAt_any x.l y.l el hx.1 W.heap.size x.pa x.ca y.pa y.ca W (Nat.le_refl _) hX.la hY.la)
  have C2 := Lib.hid (fun (W : World) (hX : IsLv W.heap.size W x) (hY : IsLv W.heap.size W y) => sameAt_any x.r y.r er hx.2 W.heap.size x.pb x.cb y.pb y.cb W (Nat.le_refl _) hX.ra hY.ra)
  simp only [heap_alloc_size] at d0
  have D := Lib.hid d0
  have hnn : (x.n == y.n) = true := by rw [en]; simp
  clear hX hY d0 en el er
  go_enter Try.func6, Try.ntmps6
  go_wp2_with fail
  generalize (w.alloc x.obj).alloc y.obj = w1 at D ⊢
  generalize hb0 : w.heap.size = b0 at D ⊢
  have HB0 := Lib.hid hb0
  clear hb0
  refine (C1.out w1 D.out.now.2.2.1 D.out.now.2.2.2.1).mono ?_
  rintro e w2 ⟨rfl, hb⟩
  have D2 := Lib.hid (D.out.mv hb)
  clear hb D C1
  obtain ⟨⟨y0, y1, y2, y3, y4⟩, ⟨x0, x1, x2, x3, x4⟩, _⟩ := D2.out.now
  go_wp2_with fail
  refine (C2.out w2 D2.out.now.2.2.1 D2.out.now.2.2.2.1).mono ?_
  clear x0 x1 x2 x3 x4 y0 y1 y2 y3 y4
  rintro e w3 ⟨rfl, hb⟩
  have HQ := Lib.hid (D2.out.mv hb).now.2.2.2.2
  clear hb D2 C2
  go_wp2
  go_ret
  exact ⟨rfl, by rw [HB0.out]; exact HQ.out⟩
end Go.Proofs.Ytbdabdjpgmnejaa

/- Steps through a region that only reads: split off RSm. -/
/- Steps through a region that only reads: what follows is shut in a structure, so that nothing unfolds it. -/
namespace Go.Proofs.Ytbdabdjpgmnejaa
set_option linter.unusedVariables false
set_option linter.unusedSimpArgs false
open Go.RowKit Go.Sort
/-- The rest of the lexical walk, shut. -/
structure WQ (P : Program) (ops : Array Oper) (C : World → Prop) (Q : Act → Prop) (l : List Oper) (a : Act) : Prop where
  out : wpQuiet P ops C Q l a
section
variable {P : Program} {ops : Array Oper} {C : World → Prop} {Q : Act → Prop} {a : Act} {o : Oper} {rest : List Oper}
theorem WQ.nil (h : Q a) : WQ P ops C Q [] a := ⟨wpQuiet_nil h⟩
theorem WQ.skip (hw : Region.wanted o (yielded ops a.tmps) = false) (h : WQ P ops C Q rest (a.put o.dst undef)) : WQ P ops C Q (o :: rest) a := by
  refine ⟨?_⟩
  unfold wpQuiet
  rw [hw]
  exact h.out
theorem WQ.two {v : Value} (hw : Region.wanted o (yielded ops a.tmps) = true) (h : ∀ w, C w → o.quietAt P a C w v) (hr : WQ P ops C Q rest (a.put o.dst v)) : WQ P ops C Q (o :: rest) a := by
  refine ⟨?_⟩
  unfold wpQuiet
  rw [hw]
  exact ⟨v, h, hr.out⟩
end
theorem wp_region_wq {P : Program} {id : Nat} {Q : Exit → Act → World → Prop} {a : Act} {w : World} {l : List Oper} (hm : P.follows .mixedOrders = true) (hB : Region.lexB .any l.toArray = true)
    (h : WQ P l.toArray (fun w' => ∃ p : Regrown, w' = grow (redrawn w p.d) p.os) (fun a' => ∀ w', (∃ p : Regrown, w' = grow (redrawn w p.d) p.os) → Q .normal a' w') l a) : (Code.region id l.toArray true).wp P Q a w :=
  wp_region_quiet_below hm hB h.out
end Go.Proofs.Ytbdabdjpgmnejaa

/- Contracts of the document's Exact and Check of clauses. -/
namespace Go.Proofs.Ytbdabdjpgmnejaa
set_option linter.unusedVariables false
set_option linter.unusedSimpArgs false
open Go.RowKit
def ExcI (n : Nat) (w : World) (i : Value) (wr : World) : Prop := ∃ k : Nat, k ≤ n ∧ i = .int .i64 k ∧ Below w.heap.size w wr
theorem t3_eq {x y : LV} (h : x.t3 = y.t3) : y.n = x.n ∧ x.l = y.l ∧ x.r = y.r := by
  simp only [LV.t3, Lt3.mk.injEq] at h
  exact ⟨h.1.symm, h.2.1, h.2.2⟩
set_option maxRecDepth 100000 in
set_option maxHeartbeats 4000000 in
theorem exact10_any (P Q : List LV) (he : t3s P = t3s Q) (hsz : ∀ x ∈ P, x.sz) (n₀ : Nat) (a : Option Addr) (c : Nat) (a' : Option Addr) (c' : Nat) (w : World) (hn : n₀ ≤ w.heap.size) (hP : IsCl n₀ w P a c) (hQ : IsCl n₀ w Q a' c') :
    Calls Try.prog 10 #[.slice a P.length c, .slice a' Q.length c'] w fun e w' => e = .returned (.bool true) ∧ Below w.heap.size w w' := by
  have hlc : P.length ≤ c ∧ c ≤ maxLen := ⟨hP.1, hP.2.1⟩
  unfold maxLen at hlc
  obtain ⟨hl1, hl2⟩ := hlc
  have HL := Lib.hid (show Q.length = P.length from by have := congrArg List.length he; simpa using this.symm)
  have HE := Lib.hid he
  have HSZ := Lib.hid hsz
  have HP := Lib.hid (hP.mono hn)
  have HQ := Lib.hid (hQ.mono hn)
  clear hP hQ he hsz
  rw [HL.out]
  go_enter Try.func10, Try.ntmps10
  go_wp2
  go_loopw [5] (fun i wr => ExcI P.length w i wr) (fun i _ => P.length - (intOf i).toNat)
  case atStart => exact ⟨0, Nat.zero_le _, rfl, Below.refl _ _⟩
  case round =>
    obtain ⟨k, hk, rfl, hB⟩ := hrel
    have HB := Lib.hid hB
    have hbz := hB.size
    clear hB
    by_cases hlt : k < P.length
    · obtain ⟨b, o, x, rfl, hb, hx, ⟨a0, a1, a2, a3, a4⟩, hxl⟩ := (HP.out.below HB.out).elem (i := k) hlt
      obtain ⟨b', o', y, rfl, hb', hy, ⟨b0, b1, b2, b3, b4⟩, hyl⟩ := (HQ.out.below HB.out).elem (i := k) (by rw [HL.out]; exact hlt)
      have hxy : x.t3 = y.t3 := by
        have h1 := t3s_get hx
        rw [HE.out, t3s_get hy] at h1
        exact (Option.some.inj h1).symm
      have hsx := HSZ.out x (List.mem_of_getElem? hx)
      obtain ⟨e1, e2, e3⟩ := t3_eq hxy
      have CE := Lib.hid (fun (W : World) (hW : Below wr.heap.size wr W) => exactAt_any x y e1 e2 e3 hsx W.heap.size W (Nat.le_refl _) (((hxl.mono hbz).below hW).mono hW.size) (((hyl.mono hbz).below hW).mono hW.size))
      have hk0 : (0 : Int) ≤ (k : Int) := Int.natCast_nonneg _
      have hk1 : (k : Int) < (P.length : Int) := by omega
      clear hx hy hxy e1 e2 e3 hxl hyl
      have f0 := fun d os => cell_regrown a0 d os
      have f1 := fun d os => cell_regrown a1 d os
      have f2 := fun d os => cell_regrown a2 d os
      have f3 := fun d os => cell_regrown a3 d os
      have f4 := fun d os => cell_regrown a4 d os
      have g0 := fun d os => cell_regrown b0 d os
      have g1 := fun d os => cell_regrown b1 d os
      have g2 := fun d os => cell_regrown b2 d os
      have g3 := fun d os => cell_regrown b3 d os
      have g4 := fun d os => cell_regrown b4 d os
      go_wp2
      refine wp_region_wq (by kernel_rfl) (by kernel_rfl) ?_
      repeat (first
        | (refine WQ.skip (by rfl) ?_; simp only [Act.put, List.setIfInBounds_toArray, List.set_cons_succ, List.set_cons_zero])
        | (apply WQ.two (by rfl); (intro w' hw'; obtain ⟨pq, rfl⟩ := hw'; go_simp; first | (with_reducible exact Calls.regrown_of (CE.out _ (below_regrown _ _ _))) | exact rfl); simp only [Act.put, List.setIfInBounds_toArray, List.set_cons_succ, List.set_cons_zero]))
      refine WQ.nil ?_
      intro _ hw'
      obtain ⟨⟨dq, osq⟩, hw''⟩ := hw'
      subst hw''
      go_wp2
      go_roundw
      case rel => exact ⟨k + 1, by omega, by go_num, HB.out.trans ((below_regrown wr dq osq).mono hbz)⟩
      case measure => simp [intOf]; omega
    · obtain rfl : k = P.length := by omega
      go_wp2
      go_ret
      exact ⟨rfl, HB.out⟩
def Ck10I (g : Sg) (P : List LV) (w : World) (i : Value) (wr : World) : Prop := ∃ k : Nat, k ≤ P.length ∧ i = .int .i64 k ∧ errs g (t3s P) = errs g (t3s (P.drop k)) ∧ Below w.heap.size w wr
theorem errs_drop {g : Sg} {P : List LV} {k : Nat} {x : LV} (h : P[k]? = some x) : errs g (t3s (P.drop k)) = if errL g x.l x.r ≠ 0 then errL g x.l x.r else errs g (t3s (P.drop (k + 1))) := by
  obtain ⟨hkl, hke⟩ := List.getElem?_eq_some_iff.1 h
  rw [List.drop_eq_getElem_cons hkl, hke]
  rfl
end Go.Proofs.Ytbdabdjpgmnejaa

/- Contract of lit's Check. -/
namespace Go.Proofs.Ytbdabdjpgmnejaa
set_option linter.unusedVariables false
set_option linter.unusedSimpArgs false
open Go.RowKit
/-- A claim: a literal with its signature. -/
abbrev ClV (g : Sg) (ga : Option Addr) (gc : Nat) (x : LV) : Value := .agg #[.slice ga g.length gc, .bool x.n, .int .i64 x.l.head, .slice x.pa x.l.args.length x.ca, .int .i64 x.r.head, .slice x.pb x.r.args.length x.cb]
abbrev ClO (g : Sg) (ga : Option Addr) (gc : Nat) (x : LV) : Obj := .cells #[.slice ga g.length gc, .bool x.n, .int .i64 x.l.head, .slice x.pa x.l.args.length x.ca, .int .i64 x.r.head, .slice x.pb x.r.args.length x.cb] 89
/-- A variable that holds a claim. -/
def Clc (b : Nat) (g : Sg) (ga : Option Addr) (gc : Nat) (x : LV) (X : World) : Prop :=
  X.cell? ⟨b, 0, none⟩ = some (.slice ga g.length gc) ∧ X.cell? ⟨b, 1, none⟩ = some (.bool x.n) ∧ X.cell? ⟨b, 2, none⟩ = some (.int .i64 x.l.head) ∧ X.cell? ⟨b, 3, none⟩ = some (.slice x.pa x.l.args.length x.ca) ∧ X.cell? ⟨b, 4, none⟩ = some (.int .i64 x.r.head) ∧ X.cell? ⟨b, 5, none⟩ = some (.slice x.pb x.r.args.length x.cb)
theorem later_clc (W : World) (g : Sg) (ga : Option Addr) (gc : Nat) (x : LV) : Later (Clc W.heap.size g ga gc x) (W.alloc (ClO g ga gc x)) := fun X hX =>
  ⟨(hX.cell (p := ⟨W.heap.size, 0, none⟩) (by simp)).trans (by simp [go_sem]), (hX.cell (p := ⟨W.heap.size, 1, none⟩) (by simp)).trans (by simp [go_sem]), (hX.cell (p := ⟨W.heap.size, 2, none⟩) (by simp)).trans (by simp [go_sem]),
    (hX.cell (p := ⟨W.heap.size, 3, none⟩) (by simp)).trans (by simp [go_sem]), (hX.cell (p := ⟨W.heap.size, 4, none⟩) (by simp)).trans (by simp [go_sem]), (hX.cell (p := ⟨W.heap.size, 5, none⟩) (by simp)).trans (by simp [go_sem])⟩
theorem Later.pushCl {F : World → Prop} {W W' : World} (k : Later F W) (hb : Below W.heap.size W W') (g : Sg) (ga : Option Addr) (gc : Nat) (x : LV) : Later (fun X => Clc W'.heap.size g ga gc x X ∧ F X) (W'.alloc (ClO g ga gc x)) :=
  (k.mv (hb.alloc hb.size _)).and (later_clc W' g ga gc x)
set_option maxRecDepth 100000 in
set_option maxHeartbeats 2000000 in
theorem clLeft_any (g : Sg) (x : LV) (hx : x.sz) (n₀ : Nat) (ga : Option Addr) (gc : Nat) (w : World) (hn : n₀ ≤ w.heap.size) (hG : IsSg n₀ w g ga gc) (hX : IsLv n₀ w x) :
    Calls Try.prog 62 #[ClV g ga gc x] w fun e w' => e = .returned (.int .i64 (errT g x.l)) ∧ Below w.heap.size w w' := by
  have hF : Below w.heap.size w (w.alloc (ClO g ga gc x)) := (Below.refl _ w).alloc (Nat.le_refl _) _
  have hX1 := hX.below (hF.mono hn)
  have C := Lib.hid (sgTerm_any g x.l hx.1 n₀ ga gc x.pa x.ca (w.alloc (ClO g ga gc x)) (by simp; omega) (hG.below (hF.mono hn)) hX.lw hX1.la)
  have HF := Lib.hid hF
  clear hX hF hX1 hG
  go_enter Try.func62, Try.ntmps62
  go_wp2_with fail
  refine C.out.mono ?_
  rintro e w2 ⟨rfl, hb⟩
  have HB := Lib.hid (HF.out.trans (hb.mono HF.out.size))
  clear hb
  go_wp2
  go_ret
  exact ⟨rfl, HB.out⟩
set_option maxRecDepth 100000 in
set_option maxHeartbeats 2000000 in
theorem clRight_any (g : Sg) (x : LV) (hx : x.sz) (n₀ : Nat) (ga : Option Addr) (gc : Nat) (w : World) (hn : n₀ ≤ w.heap.size) (hG : IsSg n₀ w g ga gc) (hX : IsLv n₀ w x) :
    Calls Try.prog 63 #[ClV g ga gc x] w fun e w' => e = .returned (.int .i64 (errT g x.r)) ∧ Below w.heap.size w w' := by
  have hF : Below w.heap.size w (w.alloc (ClO g ga gc x)) := (Below.refl _ w).alloc (Nat.le_refl _) _
  have hX1 := hX.below (hF.mono hn)
  have C := Lib.hid (sgTerm_any g x.r hx.2 n₀ ga gc x.pb x.cb (w.alloc (ClO g ga gc x)) (by simp; omega) (hG.below (hF.mono hn)) hX.rw hX1.ra)
  have HF := Lib.hid hF
  clear hX hF hX1 hG
  go_enter Try.func63, Try.ntmps63
  go_wp2_with fail
  refine C.out.mono ?_
  rintro e w2 ⟨rfl, hb⟩
  have HB := Lib.hid (HF.out.trans (hb.mono HF.out.size))
  clear hb
  go_wp2
  go_ret
  exact ⟨rfl, HB.out⟩
/-- Is its symbol in the signature, or a variable? -/
theorem head_lt {g : Sg} {t : T} (h : errT g t = 0) (h0 : 0 ≤ t.head) : t.head < (g.length : Int) := by
  have hf := (errT_ok h).2.2.1
  rw [fitsT_eq] at hf
  unfold armOk at hf
  cases hx : g[t.head.toNat]? with
  | none => rw [hx] at hf; simp at hf; omega
  | some x => have := (List.getElem?_eq_some_iff.1 hx).1; omega
set_option maxRecDepth 100000 in
set_option maxHeartbeats 2000000 in
theorem clAtom_any (g : Sg) (x : LV) (t : T) (ht : errT g t = 0) (n₀ : Nat) (ga : Option Addr) (gc : Nat) (a : Option Addr) (c : Nat) (w : World) (hn : n₀ ≤ w.heap.size) (hG : IsSg n₀ w g ga gc) :
    Calls Try.prog 71 #[ClV g ga gc x, tm t.head a t.args.length c] w fun e w' => e = .returned (.bool (predS g t.head)) ∧ Below w.heap.size w w' := by
  have hlg : g.length ≤ gc ∧ gc ≤ maxLen := ⟨hG.1, hG.2.1⟩
  unfold maxLen at hlg
  obtain ⟨hl3, hl4⟩ := hlg
  have HF := Lib.hid (show Below w.heap.size w ((w.alloc (ClO g ga gc x)).alloc (tmCells t.head a t.args.length c)) from ((Below.refl _ w).alloc (Nat.le_refl _) _).alloc (by simp) _)
  by_cases q1 : t.head < 0
  · have HD := Lib.hid (show predS g t.head = false from by unfold predS; simp [show ¬ 0 ≤ t.head from by omega])
    clear hG ht
    go_enter Try.func71, Try.ntmps71
    go_wp2
    go_ret
    exact ⟨by rw [HD.out]; rfl, HF.out⟩
  · have hk0 : (0 : Int) ≤ t.head := by omega
    have hk1 := head_lt ht hk0
    obtain ⟨b, o, y, rfl, hbn, hs, hxw, hc0, hc1, hc2, hc3⟩ := hG.elem (i := t.head.toNat) (by omega)
    have HD := Lib.hid (show predS g t.head = y.tr from by unfold predS; rw [hs]; simp [hk0])
    have hbw : b < w.heap.size := by omega
    clear hG hs hxw hc0 hc1 hc2 ht q1
    go_enter Try.func71, Try.ntmps71
    go_wp2
    go_ret
    exact ⟨by rw [HD.out]; cases y.tr <;> rfl, HF.out⟩
set_option maxRecDepth 100000 in
set_option maxHeartbeats 4000000 in
theorem clSorts_any (g : Sg) (x : LV) (h1 : errT g x.l = 0) (h2 : errT g x.r = 0) (n₀ : Nat) (ga : Option Addr) (gc : Nat) (w : World) (hn : n₀ ≤ w.heap.size) (hG : IsSg n₀ w g ga gc) (hX : IsLv n₀ w x) :
    Calls Try.prog 64 #[ClV g ga gc x] w fun e w' => e = .returned (.int .i64 (sortE g x.l x.r)) ∧ Below w.heap.size w w' := by
  have d0 := (((Later.below (Below.refl _ w)).and (later_lv (hX.mono hn))).and (later_sg (hG.mono hn))).pushCl (Below.refl _ _) g ga gc x
  have C1 := Lib.hid (fun (W : World) (hG : IsSg W.heap.size W g ga gc) => clAtom_any g x x.l h1 W.heap.size ga gc x.pa x.ca W (Nat.le_refl _) hG)
  have C2 := Lib.hid (fun (W : World) (hG : IsSg W.heap.size W g ga gc) => clAtom_any g x x.r h2 W.heap.size ga gc x.pb x.cb W (Nat.le_refl _) hG)
  have D := Lib.hid d0
  clear d0 hG hX h1 h2
  go_enter Try.func64, Try.ntmps64
  go_wp2_with fail
  generalize w.alloc (ClO g ga gc x) = w1 at D ⊢
  generalize hb0 : w.heap.size = b0 at D ⊢
  have HB0 := Lib.hid hb0
  clear hb0
  refine (C1.out w1 D.out.now.2.1).mono ?_
  rintro e w2 ⟨rfl, hb⟩
  have D2 := Lib.hid (D.out.mv hb)
  clear hb D
  obtain ⟨⟨x0, x1, x2, x3, x4, x5⟩, _⟩ := D2.out.now
  obtain ⟨p, hp⟩ : ∃ p, predS g x.l.head = p := ⟨_, rfl⟩
  have HP := Lib.hid hp
  rw [hp]
  cases p with
  | true =>
    by_cases hr : x.r.head = 0
    · have HS := Lib.hid (show sortE g x.l x.r = 0 from by unfold sortE; rw [if_pos hp, if_pos hr])
      have HQ := Lib.hid D2.out.now.2.2.2
      rw [hr] at x4
      clear hr hp
      go_wp2
      go_ret
      exact ⟨by rw [HS.out]; rfl, by rw [HB0.out]; exact HQ.out⟩
    · have HS := Lib.hid (show sortE g x.l x.r = 10 from by unfold sortE; rw [if_pos hp, if_neg hr])
      have hr' : (x.r.head == 0) = false := by simpa using hr
      clear hr hp
      go_wp2_with fail
      refine (C1.out w2 D2.out.now.2.1).mono ?_
      clear x0 x1 x2 x3 x4 x5
      rintro e w3 ⟨rfl, hb⟩
      have HQ := Lib.hid (D2.out.mv hb).now.2.2.2
      clear hb D2
      rw [HP.out]
      go_wp2
      go_ret
      exact ⟨by rw [HS.out]; rfl, by rw [HB0.out]; exact HQ.out⟩
  | false =>
    have HS := Lib.hid (show sortE g x.l x.r = if predS g x.r.head then 10 else 0 from by unfold sortE; rw [if_neg (by rw [hp]; decide)])
    clear hp
    go_wp2_with fail
    refine (C1.out w2 D2.out.now.2.1).mono ?_
    clear x0 x1 x2 x3 x4 x5
    rintro e w3 ⟨rfl, hb⟩
    have D3 := Lib.hid (D2.out.mv hb)
    clear hb D2
    rw [HP.out]
    obtain ⟨⟨x0, x1, x2, x3, x4, x5⟩, _⟩ := D3.out.now
    go_wp2_with fail
    refine (C2.out w3 D3.out.now.2.1).mono ?_
    clear x0 x1 x2 x3 x4 x5
    rintro e w4 ⟨rfl, hb⟩
    have HQ := Lib.hid (D3.out.mv hb).now.2.2.2
    clear hb D3
    cases hq : predS g x.r.head with
    | true =>
      have HT := Lib.hid (show sortE g x.l x.r = 10 from by rw [HS.out, hq]; rfl)
      clear hq
      go_wp2
      go_ret
      exact ⟨by rw [HT.out]; rfl, by rw [HB0.out]; exact HQ.out⟩
    | false =>
      have HT := Lib.hid (show sortE g x.l x.r = 0 from by rw [HS.out, hq]; rfl)
      clear hq
      go_wp2
      go_ret
      exact ⟨by rw [HT.out]; rfl, by rw [HB0.out]; exact HQ.out⟩
abbrev fnV (f : Nat) : Value := .func (.func f) #[] #[]
/-- The three tests in memory. -/
def TsM (bt : Nat) (X : World) : Prop := X.cell? ⟨bt, 0, none⟩ = some (fnV 62) ∧ X.cell? ⟨bt, 1, none⟩ = some (fnV 63) ∧ X.cell? ⟨bt, 2, none⟩ = some (fnV 64)
def TeI (g : Sg) (x : LV) (w1 : World) (i : Value) (wr : World) : Prop :=
  Below w1.heap.size w1 wr ∧ (i = .int .i64 0 ∨ (i = .int .i64 1 ∧ errT g x.l = 0) ∨ (i = .int .i64 2 ∧ errT g x.l = 0 ∧ errT g x.r = 0) ∨ (i = .int .i64 3 ∧ errL g x.l x.r = 0))
set_option maxRecDepth 100000 in
set_option maxHeartbeats 4000000 in
/-- The tests of a literal, one by one. -/
theorem litFirst_any (g : Sg) (x : LV) (hx : x.sz) (n₀ : Nat) (ga : Option Addr) (gc : Nat) (bt : Nat) (w : World) (hn : n₀ ≤ w.heap.size) (hG : IsSg n₀ w g ga gc) (hX : IsLv n₀ w x) (hbt : bt < w.heap.size) (ht : TsM bt w) :
    Calls Try.prog 61 #[ClV g ga gc x, .slice (some ⟨bt, 0, none⟩) 3 3] w fun e w' => e = .returned (.int .i64 (errL g x.l x.r)) ∧ Below w.heap.size w w' := by
  have hT : Later (TsM bt) w := fun X hX => ⟨(hX.cell (p := ⟨bt, 0, none⟩) hbt).trans ht.1, (hX.cell (p := ⟨bt, 1, none⟩) hbt).trans ht.2.1, (hX.cell (p := ⟨bt, 2, none⟩) hbt).trans ht.2.2⟩
  have d0 := ((((Later.below (Below.refl _ w)).and (later_lv (hX.mono hn))).and (later_sg (hG.mono hn))).and hT).pushCl (Below.refl _ _) g ga gc x
  have C1 := Lib.hid (fun (W : World) (hG : IsSg W.heap.size W g ga gc) (hX : IsLv W.heap.size W x) => clLeft_any g x hx W.heap.size ga gc W (Nat.le_refl _) hG hX)
  have C2 := Lib.hid (fun (W : World) (hG : IsSg W.heap.size W g ga gc) (hX : IsLv W.heap.size W x) => clRight_any g x hx W.heap.size ga gc W (Nat.le_refl _) hG hX)
  have C3 := Lib.hid (fun (h1 : errT g x.l = 0) (h2 : errT g x.r = 0) (W : World) (hG : IsSg W.heap.size W g ga gc) (hX : IsLv W.heap.size W x) => clSorts_any g x h1 h2 W.heap.size ga gc W (Nat.le_refl _) hG hX)
  have D := Lib.hid d0
  have HBT := Lib.hid hbt
  have eg1 := enters_of Try.func62 (by kernel_rfl) rfl
  have eg2 := enters_of Try.func63 (by kernel_rfl) rfl
  have eg3 := enters_of Try.func64 (by kernel_rfl) rfl
  have hbs : bt < w.heap.size + 1 := by omega
  clear d0 hG hX hT ht
  go_enter Try.func61, Try.ntmps61
  go_wp2
  have hs1 : (w.alloc (ClO g ga gc x)).heap.size = w.heap.size + 1 := by simp
  generalize w.alloc (ClO g ga gc x) = w1 at D hs1 ⊢
  go_loopw [10] (fun i wr => TeI g x w1 i wr) (fun i _ => 3 - (intOf i).toNat)
  case atStart => exact ⟨Below.refl _ _, .inl rfl⟩
  case round =>
    obtain ⟨hB, hk⟩ := hrel
    have hbz := hB.size
    have HB := Lib.hid hB
    have D1 := Lib.hid (D.out.mv hB)
    have hbw : bt < wr.heap.size := by omega
    clear hB
    rcases hk with rfl | ⟨rfl, h1⟩ | ⟨rfl, h1, h2⟩ | ⟨rfl, h1⟩
    · obtain ⟨⟨x0, x1, x2, x3, x4, x5⟩, ⟨t0, t1, t2⟩, _⟩ := D1.out.now
      go_wp2_with fail
      refine (C1.out wr D1.out.now.2.2.1 D1.out.now.2.2.2.1).mono ?_
      rintro e w2 ⟨rfl, hb⟩
      clear x0 x1 x2 x3 x4 x5 t0 t1 t2
      have HB2 := Lib.hid (HB.out.trans (hb.mono hbz))
      have HQ := Lib.hid (D1.out.mv hb).now.2.2.2.2
      clear hb
      by_cases h : errT g x.l = 0
      · have H := Lib.hid h
        rw [h]
        clear h
        go_wp2
        go_roundw
        case rel => exact ⟨HB2.out, .inr (.inl ⟨rfl, H.out⟩)⟩
        case measure => simp [intOf]
      · have HE := Lib.hid (errL_left (r := x.r) h)
        obtain ⟨k, hk⟩ : ∃ k, errT g x.l = k := ⟨_, rfl⟩
        rw [hk] at HE h ⊢
        have h2 : (k != 0) = true := by simpa using h
        clear h hk
        go_wp2
        go_ret
        exact ⟨by rw [HE.out]; rfl, HQ.out⟩
    · obtain ⟨⟨x0, x1, x2, x3, x4, x5⟩, ⟨t0, t1, t2⟩, _⟩ := D1.out.now
      have H1 := Lib.hid h1
      clear h1
      go_wp2_with fail
      refine (C2.out wr D1.out.now.2.2.1 D1.out.now.2.2.2.1).mono ?_
      rintro e w2 ⟨rfl, hb⟩
      clear x0 x1 x2 x3 x4 x5 t0 t1 t2
      have HB2 := Lib.hid (HB.out.trans (hb.mono hbz))
      have HQ := Lib.hid (D1.out.mv hb).now.2.2.2.2
      clear hb
      by_cases h : errT g x.r = 0
      · have H := Lib.hid h
        rw [h]
        clear h
        go_wp2
        go_roundw
        case rel => exact ⟨HB2.out, .inr (.inr (.inl ⟨rfl, H1.out, H.out⟩))⟩
        case measure => simp [intOf]
      · have HE := Lib.hid (errL_right H1.out h)
        obtain ⟨k, hk⟩ : ∃ k, errT g x.r = k := ⟨_, rfl⟩
        rw [hk] at HE h ⊢
        have h2 : (k != 0) = true := by simpa using h
        clear h hk
        go_wp2
        go_ret
        exact ⟨by rw [HE.out]; rfl, HQ.out⟩
    · obtain ⟨⟨x0, x1, x2, x3, x4, x5⟩, ⟨t0, t1, t2⟩, _⟩ := D1.out.now
      have HE := Lib.hid (errL_sort h1 h2)
      have C4 := Lib.hid (C3.out h1 h2)
      clear h1 h2
      go_wp2_with fail
      refine (C4.out wr D1.out.now.2.2.1 D1.out.now.2.2.2.1).mono ?_
      rintro e w2 ⟨rfl, hb⟩
      clear x0 x1 x2 x3 x4 x5 t0 t1 t2
      have HB2 := Lib.hid (HB.out.trans (hb.mono hbz))
      have HQ := Lib.hid (D1.out.mv hb).now.2.2.2.2
      clear hb
      by_cases h : sortE g x.l x.r = 0
      · have H := Lib.hid (HE.out.trans h)
        rw [h]
        clear h
        go_wp2
        go_roundw
        case rel => exact ⟨HB2.out, .inr (.inr (.inr ⟨rfl, H.out⟩))⟩
        case measure => simp [intOf]
      · obtain ⟨k, hk⟩ : ∃ k, sortE g x.l x.r = k := ⟨_, rfl⟩
        rw [hk] at HE h ⊢
        have h2 : (k != 0) = true := by simpa using h
        clear h hk
        go_wp2
        go_ret
        exact ⟨by rw [HE.out]; rfl, HQ.out⟩
    · have HQ := Lib.hid D1.out.now.2.2.2.2
      have HE := Lib.hid h1
      clear h1
      go_wp2
      go_ret
      exact ⟨by rw [HE.out]; rfl, HQ.out⟩
set_option maxRecDepth 100000 in
set_option maxHeartbeats 4000000 in
theorem litCheck_any (g : Sg) (x : LV) (hx : x.sz) (n₀ : Nat) (ga : Option Addr) (gc : Nat) (w : World) (hn : n₀ ≤ w.heap.size) (hG : IsSg n₀ w g ga gc) (hX : IsLv n₀ w x) :
    Calls Try.prog 41 #[.slice ga g.length gc, x.v] w fun e w' => e = .returned (.int .i64 (errL g x.l x.r)) ∧ Below w.heap.size w w' := by
  obtain ⟨W1, hW1⟩ : ∃ W1, (w.alloc x.obj).alloc (.cells #[fnV 62, fnV 63, fnV 64] 90) = W1 := ⟨_, rfl⟩
  have hs1 : W1.heap.size = w.heap.size + 2 := by rw [← hW1]; simp
  have hF1 : Below w.heap.size w W1 := by rw [← hW1]; exact ((Below.refl _ w).alloc (Nat.le_refl _) _).alloc (by simp) _
  have ht : TsM (w.heap.size + 1) W1 := by rw [← hW1]; exact ⟨by simp [go_sem], by simp [go_sem], by simp [go_sem]⟩
  have HC := Lib.hid (litFirst_any g x hx n₀ ga gc (w.heap.size + 1) W1 (by omega) (hG.below (hF1.mono hn)) (hX.below (hF1.mono hn)) (by omega) ht)
  have HF := Lib.hid hF1
  clear hG hX hF1 ht
  go_enter Try.func41, Try.ntmps41
  go_wp2_with fail
  try rw [hW1]
  refine HC.out.mono ?_
  rintro e w2 ⟨rfl, hb⟩
  have HB := Lib.hid (HF.out.trans (hb.mono HF.out.size))
  clear hb
  go_wp2
  go_ret
  exact ⟨rfl, HB.out⟩
end Go.Proofs.Ytbdabdjpgmnejaa
