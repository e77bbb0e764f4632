/- The document's example of layer 7. -/
import Derived.Test.YtacbkiknpnokcaaWg
import Derived.Test.YtacbkiknpnokcaaCts
import Derived.Test.YtacbkiknpnokcaaSgA
import Derived.Test.YtacbkiknpnokcaaAC0
import Derived.Test.YtacbkiknpnokcaaRv0
import Derived.Test.YtacbkiknpnokcaaIn0
import Derived.Deep.RegionLaw
import Derived.Deep.CutRange
namespace Go.Proofs.Ytacbkiknpnokcaa
set_option linter.unusedVariables false
set_option linter.unusedSimpArgs false
open Go.RowKit

def toyG : Sg := [sy0, ⟨⟨#[102]⟩, 1, 1, false⟩, ⟨⟨#[103]⟩, 2, 1, false⟩]
def toyCells : List Value := [.string ⟨#[36, 116, 114, 117, 101]⟩, .int .i64 0, .int .i64 1, .bool true, .string ⟨#[102]⟩, .int .i64 1, .int .i64 1, .bool false, .string ⟨#[103]⟩, .int .i64 2, .int .i64 1, .bool false]
def ToyPost (w : World) (e : Ending) (w' : World) : Prop := ∃ a c, e = .returned (.slice a 3 c) ∧ IsSg w'.heap.size w' toyG a c ∧ Below w.heap.size w w'
theorem toy_mem {b : Nat} {X : World} (h : Cs b toyCells X) : IsSg X.heap.size X toyG (some ⟨b, 0, none⟩) 3 := by
  obtain ⟨h1, h2⟩ := h
  refine ⟨by simp [toyG], by simp [maxLen], .inr ⟨b, 0, rfl, h1, fun j x hx => ?_⟩⟩
  match j, hx with
  | 0, hx => simp [toyG] at hx; subst hx; exact ⟨⟨by decide, by decide, by decide⟩, h2 0 _ rfl, h2 1 _ rfl, h2 2 _ rfl, h2 3 _ rfl⟩
  | 1, hx => simp [toyG] at hx; subst hx; exact ⟨⟨by decide, by decide, by decide⟩, h2 4 _ rfl, h2 5 _ rfl, h2 6 _ rfl, h2 7 _ rfl⟩
  | 2, hx => simp [toyG] at hx; subst hx; exact ⟨⟨by decide, by decide, by decide⟩, h2 8 _ rfl, h2 9 _ rfl, h2 10 _ rfl, h2 11 _ rfl⟩
  | j + 3, hx => simp [toyG] at hx
theorem toy7_any (w : World) : Calls Try.prog 23 #[] w (ToyPost w) := by
  go_enter Try.func23, Try.ntmps23
  go_wp2
  go_ret
  exact ⟨_, _, rfl, toy_mem ((later_cs w toyCells.toArray 47).now), (Below.refl _ w).alloc (Nat.le_refl _) _⟩

def T7 : T := .node 2 [.node (-1) [], .node 1 [.node (-1) []]]
def U7 : T := .node 1 [.node 0 []]
theorem ex_weight : weightV toyG T7 = .tuple #[.int .i64 4, .int .i64 0] := by kernel_rfl
theorem ex_find : findV ⟨#[103]⟩ toyG = .tuple #[.int .i64 2, .bool true] := by kernel_rfl
theorem ex_term : errT toyG U7 = 10 := by kernel_rfl
theorem ex_counts : ∀ en, IsEnd T7.hds en → ctList T7.hds en = [2] := by
  intro en h
  have e : T7.hds = [2, -1, 1, -1] := by kernel_rfl
  rw [e] at h ⊢
  obtain ⟨h1, h2, h3⟩ := h
  have := h2 0 (by omega) (by simp)
  have : en = 1 := by
    rcases h3 with h3 | ⟨v, hv, hm⟩
    · omega
    · simp at hm; omega
  subst this
  decide

theorem funk_any (h : Int) (a : Option Addr) (k c : Nat) (w : World) : Calls Try.prog 22 #[.int .i64 h, .slice a k c] w fun e u =>
    e = .returned (tm h a k c) ∧ (∀ b o, b < w.heap.size → u.cell? ⟨b, o, none⟩ = w.cell? ⟨b, o, none⟩) ∧ (∀ b o, b < w.heap.size → u.frozen? ⟨b, o, none⟩ = w.frozen? ⟨b, o, none⟩) ∧ w.heap.size ≤ u.heap.size ∧ Hid (Below w.heap.size w u) :=
  (fun_any h a k c w).mono fun e u ⟨he, hb⟩ => ⟨he, fun b o hbo => hb.cell (p := ⟨b, o, none⟩) hbo, fun b o hbo => hb.frozen (p := ⟨b, o, none⟩) hbo, hb.size, Lib.hid hb⟩
/-- A variable of type Term that is still zero. -/
def Bx (b : Nat) (W : World) : Prop := W.cell? ⟨b, 0, none⟩ = some (.int .i64 0) ∧ W.cell? ⟨b, 1, none⟩ = some (.slice none 0 0) ∧ W.frozen? ⟨b, 0, none⟩ = false ∧ W.frozen? ⟨b, 1, none⟩ = false ∧ b < W.heap.size
theorem Bx.new' {W : World} {b : Nat} {ob : Obj} (h : W.heap.size = b) (hc : ob = .cells #[.int .i64 0, .slice none 0 0] 25) : Bx b (W.alloc ob) := by
  subst h; subst hc; exact ⟨by simp [go_sem], by simp [go_sem], by simp [go_sem], by simp [go_sem], by simp⟩
theorem Bx.bl {W X : World} {b : Nat} (h : Bx b W) (hb : Below W.heap.size W X) : Bx b X := by
  obtain ⟨h1, h2, h3, h4, h5⟩ := h
  exact ⟨(hb.cell (p := ⟨b, 0, none⟩) h5).trans h1, (hb.cell (p := ⟨b, 1, none⟩) h5).trans h2, (hb.frozen (p := ⟨b, 0, none⟩) h5).trans h3, (hb.frozen (p := ⟨b, 1, none⟩) h5).trans h4, Nat.lt_of_lt_of_le h5 hb.size⟩
theorem Bx.al {W : World} {b : Nat} (h : Bx b W) (ob : Obj) : Bx b (W.alloc ob) := h.bl ((Below.refl _ _).alloc (Nat.le_refl _) _)
theorem Bx.dr {W : World} {b : Nat} (h : Bx b W) : Bx b W.drew := h
theorem Cs.new' {W : World} {b : Nat} {cs : List Value} {ty : TypeId} (h : W.heap.size = b) : Cs b cs (W.alloc (.cells cs.toArray ty)) := by
  subst h; exact (later_cs W cs.toArray ty).now
theorem Cs.bl {W X : World} {b : Nat} {cs : List Value} (h : Cs b cs W) (hb : Below W.heap.size W X) : Cs b cs X :=
  ⟨Nat.lt_of_lt_of_le h.1 hb.size, fun i u hu => (hb.cell (p := ⟨b, i, none⟩) h.1).trans (h.2 i u hu)⟩
theorem Cs.al {W : World} {b : Nat} {cs : List Value} (h : Cs b cs W) (ob : Obj) : Cs b cs (W.alloc ob) := h.bl ((Below.refl _ _).alloc (Nat.le_refl _) _)
theorem Cs.dr {W : World} {b : Nat} {cs : List Value} (h : Cs b cs W) : Cs b cs W.drew := h
theorem Cs.set {W : World} {b b' o : Nat} {cs : List Value} {u : Value} (h : Cs b cs W) (hne : b ≠ b') : Cs b cs (W.setCell ⟨b', o, none⟩ u) :=
  ⟨by simpa using h.1, fun i v hv => by rw [World.cell?_setCell_other _ _ _ _ (by intro e; injection e with e1 _ _; exact hne e1.symm)]; exact h.2 i v hv⟩
theorem bxHave {P : Prop} {W X : World} {b : Nat} (h : Bx b W) (hb : Below W.heap.size W X) (k : Hid (Bx b X) → X.cell? ⟨b, 0, none⟩ = some (.int .i64 0) → X.cell? ⟨b, 1, none⟩ = some (.slice none 0 0) → X.frozen? ⟨b, 0, none⟩ = false → X.frozen? ⟨b, 1, none⟩ = false → b < X.heap.size → P) : P := by
  have hx := h.bl hb
  obtain ⟨h1, h2, h3, h4, h5⟩ := hx
  exact k (Lib.hid (h.bl hb)) h1 h2 h3 h4 h5
theorem csHave {P : Prop} {W X : World} {b : Nat} {cs : List Value} (h : Cs b cs W) (hb : Below W.heap.size W X) (k : Hid (Cs b cs X) → P) : P := k (Lib.hid (h.bl hb))
theorem blAl {A W : World} (h : Below A.heap.size A W) (ob : Obj) : Below A.heap.size A (W.alloc ob) := h.alloc h.size ob
theorem blDr {A W : World} (h : Below A.heap.size A W) : Below A.heap.size A W.drew := ⟨h.os, h.tape, h.output, h.size, h.block⟩
theorem blHave {P : Prop} {A W X : World} (h : Below A.heap.size A W) (hb : Below W.heap.size W X) (k : Hid (Below A.heap.size A X) → P) : P := k (Lib.hid (h.trans (hb.mono h.size)))
def Cut7 (w2 : World) (v2 : Value) (wx : World) : Prop := ∃ bt br bi, v2 = .pointer (some ⟨bt, 0, none⟩) ∧ Cs bt [.int .i64 2, .slice (some ⟨br, 0, none⟩) 2 2] wx ∧
  Cs br [.int .i64 (-1), .slice none 0 0, .int .i64 1, .slice (some ⟨bi, 0, none⟩) 1 1] wx ∧ Cs bi [.int .i64 (-1), .slice none 0 0] wx ∧ Below w2.heap.size w2 wx
theorem cut_new {w2 u : World} {br bi : Nat} (h1 : Cs br [.int .i64 (-1), .slice none 0 0, .int .i64 1, .slice (some ⟨bi, 0, none⟩) 1 1] u) (h2 : Cs bi [.int .i64 (-1), .slice none 0 0] u) (hb : Below w2.heap.size w2 u) :
    Cut7 w2 (.pointer (some ⟨u.heap.size, 0, none⟩)) (u.alloc (.cells #[.int .i64 2, .slice (some ⟨br, 0, none⟩) 2 2] 25)) :=
  ⟨_, br, bi, rfl, (later_cs u #[.int .i64 2, .slice (some ⟨br, 0, none⟩) 2 2] 25).now, h1.al _, h2.al _, blAl hb _⟩
theorem cut_set {w2 u : World} {bt br bi : Nat} (h0 : Bx bt u) (h1 : Cs br [.int .i64 (-1), .slice none 0 0, .int .i64 1, .slice (some ⟨bi, 0, none⟩) 1 1] u) (h2 : Cs bi [.int .i64 (-1), .slice none 0 0] u) (n1 : bt ≠ br) (n2 : bt ≠ bi) (n3 : w2.heap.size ≤ bt) (hb : Below w2.heap.size w2 u) :
    Cut7 w2 (.pointer (some ⟨bt, 0, none⟩)) ((u.setCell ⟨bt, 0, none⟩ (.int .i64 2)).setCell ⟨bt, 1, none⟩ (.slice (some ⟨br, 0, none⟩) 2 2)) := by
  obtain ⟨p0, p1, _, _, p4⟩ := h0
  refine ⟨bt, br, bi, rfl, ⟨by simpa using p4, fun i v hv => ?_⟩, (h1.set n1.symm).set n1.symm, (h2.set n2.symm).set n2.symm, (hb.setCell (p := ⟨bt, 0, none⟩) n3 _).setCell (p := ⟨bt, 1, none⟩) n3 _⟩
  match i, hv with
  | 0, hv =>
    simp at hv; subst hv
    rw [World.cell?_setCell_other _ _ _ _ (by intro e; simp at e)]
    exact World.cell?_setCell_same' _ _ _ (by rw [p0]; rfl)
  | 1, hv =>
    simp at hv; subst hv
    exact World.cell?_setCell_same' _ _ _ (by rw [World.cell?_setCell_other _ _ _ _ (by intro e; simp at e), p1]; rfl)
  | i + 2, hv => simp at hv
theorem sgAl {W : World} {g : Sg} {a : Option Addr} {c : Nat} (h : IsSg W.heap.size W g a c) (ob : Obj) : IsSg (W.alloc ob).heap.size (W.alloc ob) g a c :=
  (h.below ((Below.refl _ _).alloc (Nat.le_refl _) _)).mono (by simp)
theorem sgDr {W : World} {g : Sg} {a : Option Addr} {c : Nat} (h : IsSg W.heap.size W g a c) : IsSg W.drew.heap.size W.drew g a c := h.below (blDr (Below.refl _ _))
theorem sgHave {P : Prop} {W X : World} {g : Sg} {a : Option Addr} {c : Nat} (h : IsSg W.heap.size W g a c) (hb : Below W.heap.size W X) (k : Hid (IsSg X.heap.size X g a c) → P) : P := k (Lib.hid ((h.below hb).mono hb.size))
theorem isAl {W : World} {z : List Int} {a : Option Addr} {c : Nat} (h : IsIs W.heap.size W z a c) (ob : Obj) : IsIs (W.alloc ob).heap.size (W.alloc ob) z a c :=
  (h.below ((Below.refl _ _).alloc (Nat.le_refl _) _)).mono (by simp)
theorem isDr {W : World} {z : List Int} {a : Option Addr} {c : Nat} (h : IsIs W.heap.size W z a c) : IsIs W.drew.heap.size W.drew z a c := h.below (blDr (Below.refl _ _))
theorem counts7 (br : Nat) (W : World) (hA : IsArgs W.heap.size W T7.args (some ⟨br, 0, none⟩) 2) : Calls Try.prog 13 #[tm 2 (some ⟨br, 0, none⟩) 2 2] W fun e u => ∃ a c, e = .returned (.slice a 1 c) ∧ IsIs u.heap.size u [2] a c ∧ Below W.heap.size W u :=
  (counts_any T7 (by simp [T7, T.size, T.sizes]) W.heap.size (some ⟨br, 0, none⟩) 2 W (Nat.le_refl _) (by decide) hA).mono fun e u ⟨en, v, he, hE, hown, hb⟩ => by
    have hl := ex_counts en hE
    have h1 : (ctList T7.hds en).length = en := by simp [ctList]
    rw [hl] at h1 hown
    simp at h1
    subst h1
    obtain ⟨a, c, rfl, hI⟩ := isIs_of_owns (p := [2]) hown
    exact ⟨a, c, he, hI, hb⟩
theorem is_of_cs {k : Nat} {z : Int} {W : World} (h : Cs k [.int .i64 z] W) : IsIs W.heap.size W [z] (some ⟨k, 0, none⟩) 1 := by
  refine ⟨Nat.le_refl _, by simp [maxLen], .inr ⟨k, 0, rfl, h.1, fun j y hy => ?_⟩⟩
  match j, hy with
  | 0, hy => simp at hy; subst hy; exact h.2 0 _ rfl
  | j + 1, hy => simp at hy
theorem ints7 (a : Option Addr) (c k : Nat) (W : World) (hI : IsIs W.heap.size W [2] a c) (hR : Cs k [.int .i64 2] W) : Calls Try.prog 24 #[.slice a 1 c, .slice (some ⟨k, 0, none⟩) 1 1] W fun e u => e = .returned (.bool true) ∧ Below W.heap.size W u :=
  ints_any [2] [2] W.heap.size a c (some ⟨k, 0, none⟩) 1 W (Nat.le_refl _) hI (is_of_cs hR)
theorem term7 (a : Option Addr) (c k : Nat) (W : World) (hG : IsSg W.heap.size W toyG a c) (hR : Cs k [.int .i64 0, .slice none 0 0] W) : Calls Try.prog 18 #[.slice a 3 c, tm 1 (some ⟨k, 0, none⟩) 1 1] W fun e u => e = .returned (.int .i64 10) ∧ Below W.heap.size W u := by
  have h := sgTerm_any toyG U7 (by simp [U7, T.size, T.sizes]) W.heap.size a c (some ⟨k, 0, none⟩) 1 W (Nat.le_refl _) hG (by decide)
    ⟨by simp [U7, T.args], by simp [maxLen], .inr ⟨k, 0, rfl, hR.1, ⟨⟨by decide, hR.2 0 _ rfl, _, _, hR.2 1 _ rfl, by simp, by simp [maxLen], .inl rfl⟩, trivial⟩⟩⟩
  rw [ex_term] at h
  exact h
theorem bl_of_drew {W u : World} (h : Below W.drew.heap.size W.drew u) : Below W.heap.size W u := ⟨h.os, h.tape, h.output, h.size, h.block⟩

set_option maxRecDepth 100000 in
set_option maxHeartbeats 800000 in
theorem awake7_any (w : World) : Calls Try.prog 10 #[] w fun e w' => e = .returned (.bool true) ∧ Below w.heap.size w w' := by
  go_enter Try.func10, Try.ntmps10
  go_wp2_with fail
  refine (refVar_any 0 _ (by omega) (by omega)).mono ?_
  rintro e w1 ⟨rfl, hb1⟩
  have D1 := Lib.hid (Later.below hb1)
  clear hb1
  go_wp2_with fail
  have D2 := Lib.hid (D1.out.pushC (Below.refl _ _) #[.int .i64 (-1), .slice none 0 0] 25)
  generalize w1.alloc (.cells #[.int .i64 (-1), .slice none 0 0] 25) = w2 at D2 ⊢
  generalize w1.heap.size = b1 at D2 ⊢
  clear D1
  have KP := Lib.hid (show ∀ W, Below w2.heap.size w2 W → W.cell? ⟨b1, 0, none⟩ = some (.int .i64 (-1)) ∧ W.cell? ⟨b1, 1, none⟩ = some (.slice none 0 0) ∧ b1 < W.heap.size from fun W hW => by
    obtain ⟨⟨hl, hc⟩, _⟩ := D2.out W hW
    exact ⟨hc 0 _ rfl, hc 1 _ rfl, hl⟩)
  obtain ⟨f0, f1, hbl⟩ := KP.out w2 (Below.refl _ _)
  go_cut [2] from 8 (fun v2 wx => Cut7 w2 v2 wx)
  case first =>
    --BEGIN
    go_region_law (first
      | (go_simp; go_at_call 22; with_reducible refine (funk_any 1 _ _ _ _).mono ?_; rintro e u1 ⟨rfl, hk1, hf1, hz1, h1⟩; simp only [World.size_alloc, World.size_drew] at hz1 hk1; have a5 := fun o => hk1 b1 o (by omega); (have a6 : b1 < u1.heap.size := (by omega)); clear hk1 hf1; (try (refine blHave (A := w2) (X := u1) ?_ h1.out ?_; (focus ((repeat (first | exact Below.refl _ _ | refine blDr ?_ | refine blAl ?_ _)); done)); intro rbl1)); (try (refine bxHave (b := w2.heap.size) (X := u1) ?_ h1.out ?_; (focus ((repeat (first | (refine Bx.new' ?_ ?_; (focus (simp; done)); (focus rfl)) | refine Bx.dr ?_ | refine Bx.al ?_ _)); done)); intro yba0 _ _ _ _ _)); (try (refine csHave (b := w2.heap.size) (cs := [.int .i64 (-1), .slice none 0 0]) (X := u1) ?_ h1.out ?_; (focus ((repeat (first | (refine Cs.new' ?_; (focus (simp; done))) | refine Cs.dr ?_ | refine Cs.al ?_ _)); done)); intro rba0)); (try (refine bxHave (b := (w2.heap.size + 1)) (X := u1) ?_ h1.out ?_; (focus ((repeat (first | (refine Bx.new' ?_ ?_; (focus (simp; done)); (focus rfl)) | refine Bx.dr ?_ | refine Bx.al ?_ _)); done)); intro yba1 _ _ _ _ _)); (try (refine csHave (b := (w2.heap.size + 1)) (cs := [.int .i64 (-1), .slice none 0 0]) (X := u1) ?_ h1.out ?_; (focus ((repeat (first | (refine Cs.new' ?_; (focus (simp; done))) | refine Cs.dr ?_ | refine Cs.al ?_ _)); done)); intro rba1)))
      | (go_simp; go_at_call 22; with_reducible refine (funk_any 2 _ _ _ _).mono ?_; rintro e u2 ⟨rfl, hk2, hf2, hz2, h2⟩; simp only [World.size_alloc, World.size_drew] at hz2; clear hk2 hf2; (try (refine blHave (A := w2) (X := u2) ?_ h2.out ?_; (focus ((repeat (first | exact rbl1.out | refine blDr ?_ | refine blAl ?_ _)); done)); intro rbl2)); (try (refine bxHave (b := w2.heap.size) (X := u2) ?_ h2.out ?_; (focus ((repeat (first | (refine Bx.new' ?_ ?_; (focus (simp; done)); (focus rfl)) | exact yba0.out | exact yba1.out | refine Bx.dr ?_ | refine Bx.al ?_ _)); done)); intro ybb0 _ _ _ _ _)); (try (refine bxHave (b := (w2.heap.size + 1)) (X := u2) ?_ h2.out ?_; (focus ((repeat (first | (refine Bx.new' ?_ ?_; (focus (simp; done)); (focus rfl)) | exact yba0.out | exact yba1.out | refine Bx.dr ?_ | refine Bx.al ?_ _)); done)); intro ybb1 _ _ _ _ _)); (try (refine bxHave (b := u1.heap.size) (X := u2) ?_ h2.out ?_; (focus ((repeat (first | (refine Bx.new' ?_ ?_; (focus (simp; done)); (focus rfl)) | exact yba0.out | exact yba1.out | refine Bx.dr ?_ | refine Bx.al ?_ _)); done)); intro ybb2 _ _ _ _ _)); (try (refine bxHave (b := (u1.heap.size + 1)) (X := u2) ?_ h2.out ?_; (focus ((repeat (first | (refine Bx.new' ?_ ?_; (focus (simp; done)); (focus rfl)) | exact yba0.out | exact yba1.out | refine Bx.dr ?_ | refine Bx.al ?_ _)); done)); intro ybb3 _ _ _ _ _)); (try (refine csHave (b := w2.heap.size) (cs := [.int .i64 (-1), .slice none 0 0]) (X := u2) ?_ h2.out ?_; (focus ((repeat (first | (refine Cs.new' ?_; (focus (simp; done))) | exact rba0.out | exact rba1.out | refine Cs.dr ?_ | refine Cs.al ?_ _)); done)); intro rbc0)); (try (refine csHave (b := (w2.heap.size + 1)) (cs := [.int .i64 (-1), .slice none 0 0]) (X := u2) ?_ h2.out ?_; (focus ((repeat (first | (refine Cs.new' ?_; (focus (simp; done))) | exact rba0.out | exact rba1.out | refine Cs.dr ?_ | refine Cs.al ?_ _)); done)); intro rbc1)); (try (refine csHave (b := u1.heap.size) (cs := [.int .i64 (-1), .slice none 0 0, .int .i64 1, .slice (some ⟨w2.heap.size, 0, none⟩) 1 1]) (X := u2) ?_ h2.out ?_; (focus ((repeat (first | (refine Cs.new' ?_; (focus (simp; done))) | exact rba0.out | exact rba1.out | refine Cs.dr ?_ | refine Cs.al ?_ _)); done)); intro rbd20)); (try (refine csHave (b := u1.heap.size) (cs := [.int .i64 (-1), .slice none 0 0, .int .i64 1, .slice (some ⟨w2.heap.size + 1, 0, none⟩) 1 1]) (X := u2) ?_ h2.out ?_; (focus ((repeat (first | (refine Cs.new' ?_; (focus (simp; done))) | exact rba0.out | exact rba1.out | refine Cs.dr ?_ | refine Cs.al ?_ _)); done)); intro rbd21)); (try (refine csHave (b := (u1.heap.size + 1)) (cs := [.int .i64 (-1), .slice none 0 0, .int .i64 1, .slice (some ⟨w2.heap.size, 0, none⟩) 1 1]) (X := u2) ?_ h2.out ?_; (focus ((repeat (first | (refine Cs.new' ?_; (focus (simp; done))) | exact rba0.out | exact rba1.out | refine Cs.dr ?_ | refine Cs.al ?_ _)); done)); intro rbd30)); (try (refine csHave (b := (u1.heap.size + 1)) (cs := [.int .i64 (-1), .slice none 0 0, .int .i64 1, .slice (some ⟨w2.heap.size + 1, 0, none⟩) 1 1]) (X := u2) ?_ h2.out ?_; (focus ((repeat (first | (refine Cs.new' ?_; (focus (simp; done))) | exact rba0.out | exact rba1.out | refine Cs.dr ?_ | refine Cs.al ?_ _)); done)); intro rbd31))))
    all_goals
      go_wp2_with fail
      go_meet
      first
        | exact cut_new rbd20.out rbc0.out rbl2.out
        | exact cut_new rbd21.out rbc1.out rbl2.out
        | exact cut_new rbd30.out rbc0.out rbl2.out
        | exact cut_new rbd31.out rbc1.out rbl2.out
        | exact cut_set ybb0.out rbd20.out rbc0.out (by omega) (by omega) (by omega) rbl2.out
        | exact cut_set ybb0.out rbd21.out rbc1.out (by omega) (by omega) (by omega) rbl2.out
        | exact cut_set ybb0.out rbd30.out rbc0.out (by omega) (by omega) (by omega) rbl2.out
        | exact cut_set ybb0.out rbd31.out rbc1.out (by omega) (by omega) (by omega) rbl2.out
        | exact cut_set ybb1.out rbd20.out rbc0.out (by omega) (by omega) (by omega) rbl2.out
        | exact cut_set ybb1.out rbd21.out rbc1.out (by omega) (by omega) (by omega) rbl2.out
        | exact cut_set ybb1.out rbd30.out rbc0.out (by omega) (by omega) (by omega) rbl2.out
        | exact cut_set ybb1.out rbd31.out rbc1.out (by omega) (by omega) (by omega) rbl2.out
        | exact cut_set ybb2.out rbd20.out rbc0.out (by omega) (by omega) (by omega) rbl2.out
        | exact cut_set ybb2.out rbd21.out rbc1.out (by omega) (by omega) (by omega) rbl2.out
        | exact cut_set ybb2.out rbd30.out rbc0.out (by omega) (by omega) (by omega) rbl2.out
        | exact cut_set ybb2.out rbd31.out rbc1.out (by omega) (by omega) (by omega) rbl2.out
        | exact cut_set ybb3.out rbd20.out rbc0.out (by omega) (by omega) (by omega) rbl2.out
        | exact cut_set ybb3.out rbd21.out rbc1.out (by omega) (by omega) (by omega) rbl2.out
        | exact cut_set ybb3.out rbd30.out rbc0.out (by omega) (by omega) (by omega) rbl2.out
        | exact cut_set ybb3.out rbd31.out rbc1.out (by omega) (by omega) (by omega) rbl2.out
    --END
  case rest =>
    obtain ⟨bt, br, bi, rfl, ht, hr, hi, hB⟩ := hcut
    have KS := Lib.hid (show ∀ W, Below wc.heap.size wc W → W.cell? ⟨bt, 0, none⟩ = some (.int .i64 2) ∧ W.cell? ⟨bt, 1, none⟩ = some (.slice (some ⟨br, 0, none⟩) 2 2) ∧ bt < W.heap.size ∧ IsArgs W.heap.size W T7.args (some ⟨br, 0, none⟩) 2 ∧ Below w.heap.size w W from fun W hW => by
      obtain ⟨t1, t2⟩ := ht.bl hW
      obtain ⟨r1, r2⟩ := hr.bl hW
      obtain ⟨i1, i2⟩ := hi.bl hW
      refine ⟨t2 0 _ rfl, t2 1 _ rfl, t1, ⟨by simp [T7, T.args], by simp [maxLen], .inr ⟨br, 0, rfl, r1, ?_⟩⟩, (D2.out W (hB.trans (hW.mono hB.size))).2⟩
      exact ⟨⟨by decide, r2 0 _ rfl, _, _, r2 1 _ rfl, by simp, by simp [maxLen], .inl rfl⟩, ⟨by decide, r2 2 _ rfl, _, _, r2 3 _ rfl, by simp, by simp [maxLen], .inr ⟨bi, 0, rfl, i1, ⟨by decide, i2 0 _ rfl, _, _, i2 1 _ rfl, by simp, by simp [maxLen], .inl rfl⟩, trivial⟩⟩, trivial⟩)
    clear ht hr hi hB KP f0 f1 hbl D2
    generalize wc = w3 at KS ⊢
    obtain ⟨f0, f1, fl, _⟩ := KS.out w3 (Below.refl _ _)
    go_wp2_with fail
    go_cut [3, 4] from 14 (fun v3 v4 wx => v3 = .int .i64 4 ∧ v4 = .int .i64 0 ∧ Below w3.heap.size w3 wx)
    case first =>
      go_region_law (first
        | (go_simp; go_at_call 23; refine (toy7_any _).mono ?_; rintro e u1 ⟨ag, cg, rfl, hG1, h1⟩; have hB1 : Below w3.heap.size w3 u1 := (by first | exact h1 | exact bl_of_drew h1); obtain ⟨p0, p1, _, p3, _⟩ := KS.out u1 hB1)
        | (go_simp; go_at_call 8; refine (weight_any toyG T7 (by simp [T7, T.size, T.sizes]) u1.heap.size ag cg (some ⟨br, 0, none⟩) 2 _ (Nat.le_refl _) hG1 (by decide) p3).mono ?_; rw [ex_weight]; rintro e u2 ⟨rfl, h2⟩; have hB2 : Below w3.heap.size w3 u2 := hB1.trans ((show Below u1.heap.size u1 u2 from (by first | exact h2 | exact bl_of_drew h2)).mono hB1.size)))
      all_goals
        go_wp2_with fail
        go_meet
        exact ⟨rfl, rfl, hB2⟩
    case rest =>
    obtain ⟨rfl, rfl, hB3⟩ := hcut
    have KS4 := Lib.hid (fun W (hW : Below wc.heap.size wc W) => KS.out W (hB3.trans (hW.mono hB3.size)))
    clear f0 f1 fl KS hB3
    generalize wc = w4 at KS4 ⊢
    have KS := KS4
    clear KS4
    obtain ⟨f0, f1, fl, _⟩ := KS.out w4 (Below.refl _ _)
    go_wp2_with fail
    refine (toy7_any w4).mono ?_
    rintro e u1 ⟨ag, cg, rfl, hG1, h1⟩
    go_wp2_with fail
    refine (find_any ⟨#[103]⟩ toyG (by simp [toyG]) u1.heap.size ag cg _ (Nat.le_refl _) hG1).mono ?_
    rw [ex_find]
    rintro e wc ⟨rfl, h2⟩
    have hB4 : Below w4.heap.size w4 wc := h1.trans (h2.mono h1.size)
    clear h1 h2 hG1
    have KS4 := Lib.hid (fun W (hW : Below wc.heap.size wc W) => KS.out W (hB4.trans (hW.mono hB4.size)))
    clear f0 f1 fl KS hB4
    generalize wc = w5 at KS4 ⊢
    have KS := KS4
    clear KS4
    obtain ⟨f0, f1, fl, _⟩ := KS.out w5 (Below.refl _ _)
    go_wp2_with fail
    refine (counts7 br w5 (KS.out w5 (Below.refl _ _)).2.2.2.1).mono ?_
    rintro e u1 ⟨ac, cc, rfl, hI, h1⟩
    have HI := Lib.hid hI
    have B1 := Lib.hid h1
    clear h1 hI f0 f1 fl
    go_wp2_with fail
    refine (ints7 ac cc u1.heap.size _ (isAl HI.out _) (later_cs u1 #[.int .i64 2] 3).now).mono ?_
    rintro e u2 ⟨rfl, h2⟩
    have B2 := Lib.hid (B1.out.trans (((blAl (Below.refl _ u1) _).trans (h2.mono (by simp))).mono B1.out.size))
    clear h2 HI B1
    go_wp2_with fail
    refine (toy7_any u2).mono ?_
    rintro e u3 ⟨ag, cg, rfl, hG, h3⟩
    have HG3 := Lib.hid hG
    have B3 := Lib.hid (B2.out.trans (h3.mono B2.out.size))
    clear hG h3 B2
    go_wp2_with fail
    refine (fun_any 0 none 0 0 u3).mono ?_
    rintro e u4 ⟨rfl, h4⟩
    have HG4 := Lib.hid ((HG3.out.below h4).mono h4.size)
    have B4 := Lib.hid (B3.out.trans (h4.mono B3.out.size))
    clear h4 HG3 B3
    go_wp2_with fail
    refine (fun_any 1 (some ⟨u4.heap.size, 0, none⟩) 1 1 _).mono ?_
    rintro e u5 ⟨rfl, h5⟩
    have h45 : Below u4.heap.size u4 u5 := (blAl (Below.refl _ u4) _).trans (h5.mono (by simp))
    have HR5 := Lib.hid (Cs.bl (later_cs u4 #[.int .i64 0, .slice none 0 0] 25).now h5)
    have HG5 := Lib.hid ((HG4.out.below h45).mono h45.size)
    have B5 := Lib.hid (B4.out.trans (h45.mono B4.out.size))
    clear h5 h45 HG4 B4
    go_wp2_with fail
    refine (term7 ag cg u4.heap.size u5 HG5.out HR5.out).mono ?_
    rintro e u6 ⟨rfl, h6⟩
    have B6 := Lib.hid (B5.out.trans (h6.mono B5.out.size))
    clear h6 B5 HG5 HR5
    go_wp2
    go_ret
    exact ⟨rfl, (KS.out _ B6.out).2.2.2.2⟩

end Go.Proofs.Ytacbkiknpnokcaa
