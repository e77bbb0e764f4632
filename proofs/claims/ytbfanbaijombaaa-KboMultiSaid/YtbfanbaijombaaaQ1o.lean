/- Q1o: joined of Kb7, AC0, Rg. -/
import Derived.Test.YtbfanbaijombaaaQ1k
import Derived.Test.YtbfanbaijombaaaQ1g
import Derived.Test.YtbfanbaijombaaaKmu
import Derived.Test.YtbfanbaijombaaaQ1i
import Derived.Test.YtbfanbaijombaaaQ1c
import Derived.Deep.RegionHeld3
import Derived.Test.YtbfanbaijombaaaQ1a
import Derived.Deep.RegionLaw
import Derived.Deep.CutRange
/- Plain facts for the laws of layer 8. -/
namespace Go.Proofs.Ytbfanbaijombaaa
set_option linter.unusedVariables false
set_option linter.unusedSimpArgs false
open Go.RowKit

theorem stand_swap (g : Sg) (a b : T) : stand g b a = if stand g a b = 2 then 2 else -stand g a b := by
  rcases stand_cases g a b with ⟨h, e⟩ | ⟨h, e⟩ | ⟨h, e⟩ | ⟨h, e1, e2, e3⟩
  · rw [h, stand_zero.2 e.symm]; rfl
  · rw [h, stand_less.2 e]; rfl
  · rw [h, stand_more.2 e]; rfl
  · rw [h]
    rcases stand_cases g b a with ⟨h', e'⟩ | ⟨h', e'⟩ | ⟨h', e'⟩ | ⟨h', _⟩
    · exact absurd e'.symm e1
    · rw [e3] at e'; cases e'
    · rw [e2] at e'; cases e'
    · rw [h']; rfl
def cmR (g : Sg) (a b : T) : Int := if errF g [a, b] = 0 then stand g a b else 0
theorem cmpV_eq (g : Sg) (a b : T) : cmpV g a b = .tuple #[.int .i64 (cmR g a b), .int .i64 (errF g [a, b])] := by
  unfold cmpV cmR
  by_cases h : errF g [a, b] = 0
  · rw [if_pos h, if_pos h, h]
  · rw [if_neg h, if_neg h]
def muR (g : Sg) (a b : List T) : Int := if errF g a = 0 then (if errF g b = 0 then rowsT g a b else 0) else 0
def muE (g : Sg) (a b : List T) : Int := if errF g a = 0 then errF g b else errF g a
theorem mulV_eq (g : Sg) (a b : List T) : mulV g a b = .tuple #[.int .i64 (muR g a b), .int .i64 (muE g a b)] := by
  unfold mulV muR muE
  by_cases h : errF g a = 0
  · rw [if_pos h, if_pos h, if_pos h]
    by_cases h' : errF g b = 0
    · rw [if_pos h', if_pos h', h']
    · rw [if_neg h', if_neg h']
  · rw [if_neg h, if_neg h, if_neg h]
theorem cm_ok {g : Sg} {a b : T} (h : errF g [a, b] = 0) : cmR g a b = stand g a b := by unfold cmR; rw [if_pos h]
theorem errT_right {g : Sg} {t : T} (h : errT g t = 0) : rightG g = true := (errT_ok h).1
theorem errT_bad {g : Sg} {t : T} (h : errT g t = 0) : bad (T.subs 1 t) = false := (check_ok (errT_ok h).2.1).2.2
theorem errT_okT {g : Sg} {t : T} (h : errT g t = 0) : OkT g t := (okT_iff (errT_right h)).1 h
theorem heads_hds (t : T) : t.heads = t.hds := by
  refine hds_unique (F := T.heads) (fun t => ?_) t.size t (Nat.le_refl _)
  rw [T.heads_eq]
theorem isVars_vars (t : T) : IsVars (varsOf (T.subs 1 t)) t := fun v => by rw [mem_vars, heads_hds]
theorem vars_grd {t : T} (h : (varsOf (T.subs 1 t)).length = 0) : Grd t := (grd_vars (isVars_vars t)).1 (List.eq_nil_of_length_eq_zero h)
theorem stand_grd {g : Sg} {a b : T} (ha : errT g a = 0) (hb : errT g b = 0) (ga : Grd a) (gb : Grd b) : stand g a b ≠ 2 := fun h => by
  rcases stand_cases g a b with ⟨h', _⟩ | ⟨h', _⟩ | ⟨h', _⟩ | ⟨_, e1, e2, e3⟩
  · rw [h'] at h; cases h
  · rw [h'] at h; cases h
  · rw [h'] at h; cases h
  · rcases gtK_total (g := g) a.size a b (Nat.le_refl _) (errT_okT ha) (errT_okT hb) ga gb e1 with e | e
    · rw [e2] at e; cases e
    · rw [e3] at e; cases e
theorem stand_trans {g : Sg} {a b c : T} (h1 : stand g a b = 1) (h2 : stand g b c = 1) : stand g a c = 1 :=
  stand_more.2 (gtK_trans a.size a b c (Nat.le_refl _) (stand_more.1 h1) (stand_more.1 h2))
theorem stand_sub {g : Sg} {f : Int → T} {a b : T} (ha : ∀ h ∈ a.hds, h < 0 → 1 ≤ wtT g (f (-1 - h))) (hb : ∀ h ∈ b.hds, h < 0 → 1 ≤ wtT g (f (-1 - h))) (ba : bad (T.subs 1 a) = false) (bb : bad (T.subs 1 b) = false) (h : stand g a b ≠ 2) : stand g (a.sub f) (b.sub f) = stand g a b := by
  rcases stand_cases g a b with ⟨h', e⟩ | ⟨h', e⟩ | ⟨h', e⟩ | ⟨h', _⟩
  · rw [h']; exact stand_zero.2 (by rw [e])
  · rw [h']; exact stand_more.2 (gtK_sub a.size a b (Nat.le_refl _) ha ba bb e)
  · rw [h']; exact stand_less.2 (gtK_sub b.size b a (Nat.le_refl _) hb bb ba e)
  · exact absurd h' h
theorem errF_cons (g : Sg) (t : T) (ts : List T) : errF g (t :: ts) = if errT g t ≠ 0 then errT g t else errF g ts := rfl
theorem errF_one {g : Sg} {t : T} : errF g [t] = errT g t := by
  rw [errF_cons]
  by_cases h : errT g t = 0
  · rw [if_neg (fun e => e h), h]; rfl
  · rw [if_pos h]
theorem errF_app (g : Sg) : ∀ (a b : List T), errF g (a ++ b) = if errF g a = 0 then errF g b else errF g a
  | [], b => rfl
  | t :: a, b => by
    rw [List.cons_append, errF_cons, errF_cons]
    by_cases h : errT g t = 0
    · have h' : ¬ errT g t ≠ 0 := fun e => e h
      simp only [if_neg h', errF_app g a b]
    · simp only [if_pos h, if_neg h]
theorem errF_pair {g : Sg} {a b : T} (ha : errT g a = 0) (hb : errT g b = 0) : errF g [a, b] = 0 := by
  have : errF g ([a] ++ [b]) = 0 := by rw [errF_app, errF_one, errF_one, if_pos ha, hb]
  exact this

end Go.Proofs.Ytbfanbaijombaaa

/- A block of cells, in every later world: what walks of examples keep. -/
namespace Go.Proofs.Ytbfanbaijombaaa
set_option linter.unusedVariables false
set_option linter.unusedSimpArgs false
open Go.RowKit

/-- A block of cells, in every later world. -/
def Cs (b : Nat) (cs : List Value) (X : World) : Prop := b < X.heap.size ∧ ∀ i u, cs[i]? = some u → X.cell? ⟨b, i, none⟩ = some u
theorem later_cs (W : World) (cs : Array Value) (ty : TypeId) : Later (Cs W.heap.size cs.toList) (W.alloc (.cells cs ty)) := fun X hX =>
  ⟨by have := hX.size; simp at this; omega, fun i u hu => (hX.cell (p := ⟨W.heap.size, i, none⟩) (by simp)).trans (by
    have h := MapKept.heap_alloc W (.cells cs ty)
    simp only [World.cell?, h.1]
    simpa using hu)⟩
theorem Later.pushC {F : World → Prop} {W W' : World} (k : Later F W) (hb : Below W.heap.size W W') (cs : Array Value) (ty : TypeId) : Later (fun X => Cs W'.heap.size cs.toList X ∧ F X) (W'.alloc (.cells cs ty)) :=
  (k.mv (hb.alloc hb.size _)).and (later_cs W' cs ty)
theorem Later.step {F : World → Prop} {W W' : World} (k : Later F W) (hb : Below W.heap.size W W') : Later F W' := k.mv hb

theorem bl_call {w X u : World} (hX : Below w.heap.size w X) (hu : Below X.heap.size X u) : Below w.heap.size w u := hX.trans (hu.mono hX.size)
theorem vc_lt {b : Nat} {h : Int} {a : Option Addr} {n c : Nat} {X : World} (h : Vc b h a n c X) : b < X.heap.size := World.block_lt_of_cell? X ⟨b, 0, none⟩ h.1
end Go.Proofs.Ytbfanbaijombaaa

/- Kit for walks of examples whose regions draw their order: cells, boxes and worlds carried through allocations, draws and calls. -/
namespace Go.Proofs.Ytbfanbaijombaaa
set_option linter.unusedVariables false
set_option linter.unusedSimpArgs false
open Go.RowKit

theorem funk_any (h : Int) (a : Option Addr) (k c : Nat) (w : World) : Calls Try.prog 28 #[.int .i64 h, .slice a k c] w fun e u =>
    e = .returned (tm h a k c) ∧ (∀ b o, b < w.heap.size → u.cell? ⟨b, o, none⟩ = w.cell? ⟨b, o, none⟩) ∧ (∀ b o, b < w.heap.size → u.frozen? ⟨b, o, none⟩ = w.frozen? ⟨b, o, none⟩) ∧ w.heap.size ≤ u.heap.size ∧ Hid (Below w.heap.size w u) :=
  (fun_any h a k c w).mono fun e u ⟨he, hb⟩ => ⟨he, fun b o hbo => hb.cell (p := ⟨b, o, none⟩) hbo, fun b o hbo => hb.frozen (p := ⟨b, o, none⟩) hbo, hb.size, Lib.hid hb⟩
/-- A variable of type Term that is still zero. -/
def Bx (b : Nat) (W : World) : Prop := W.cell? ⟨b, 0, none⟩ = some (.int .i64 0) ∧ W.cell? ⟨b, 1, none⟩ = some (.slice none 0 0) ∧ W.frozen? ⟨b, 0, none⟩ = false ∧ W.frozen? ⟨b, 1, none⟩ = false ∧ b < W.heap.size
theorem Bx.new' {W : World} {b : Nat} {ob : Obj} (h : W.heap.size = b) (hc : ob = .cells #[.int .i64 0, .slice none 0 0] 25) : Bx b (W.alloc ob) := by
  subst h; subst hc; exact ⟨by simp [go_sem], by simp [go_sem], by simp [go_sem], by simp [go_sem], by simp⟩
theorem Bx.bl {W X : World} {b : Nat} (h : Bx b W) (hb : Below W.heap.size W X) : Bx b X := by
  obtain ⟨h1, h2, h3, h4, h5⟩ := h
  exact ⟨(hb.cell (p := ⟨b, 0, none⟩) h5).trans h1, (hb.cell (p := ⟨b, 1, none⟩) h5).trans h2, (hb.frozen (p := ⟨b, 0, none⟩) h5).trans h3, (hb.frozen (p := ⟨b, 1, none⟩) h5).trans h4, Nat.lt_of_lt_of_le h5 hb.size⟩
theorem Bx.al {W : World} {b : Nat} (h : Bx b W) (ob : Obj) : Bx b (W.alloc ob) := h.bl ((Below.refl _ _).alloc (Nat.le_refl _) _)
theorem Bx.dr {W : World} {b : Nat} (h : Bx b W) : Bx b W.drew := h
theorem Cs.new' {W : World} {b : Nat} {cs : List Value} {ty : TypeId} (h : W.heap.size = b) : Cs b cs (W.alloc (.cells cs.toArray ty)) := by
  subst h; exact (later_cs W cs.toArray ty).now
theorem Cs.bl {W X : World} {b : Nat} {cs : List Value} (h : Cs b cs W) (hb : Below W.heap.size W X) : Cs b cs X :=
  ⟨Nat.lt_of_lt_of_le h.1 hb.size, fun i u hu => (hb.cell (p := ⟨b, i, none⟩) h.1).trans (h.2 i u hu)⟩
theorem Cs.al {W : World} {b : Nat} {cs : List Value} (h : Cs b cs W) (ob : Obj) : Cs b cs (W.alloc ob) := h.bl ((Below.refl _ _).alloc (Nat.le_refl _) _)
theorem Cs.dr {W : World} {b : Nat} {cs : List Value} (h : Cs b cs W) : Cs b cs W.drew := h
theorem Cs.set {W : World} {b b' o : Nat} {cs : List Value} {u : Value} (h : Cs b cs W) (hne : b ≠ b') : Cs b cs (W.setCell ⟨b', o, none⟩ u) :=
  ⟨by simpa using h.1, fun i v hv => by rw [World.cell?_setCell_other _ _ _ _ (by intro e; injection e with e1 _ _; exact hne e1.symm)]; exact h.2 i v hv⟩
theorem bxHave {P : Prop} {W X : World} {b : Nat} (h : Bx b W) (hb : Below W.heap.size W X) (k : Hid (Bx b X) → X.cell? ⟨b, 0, none⟩ = some (.int .i64 0) → X.cell? ⟨b, 1, none⟩ = some (.slice none 0 0) → X.frozen? ⟨b, 0, none⟩ = false → X.frozen? ⟨b, 1, none⟩ = false → b < X.heap.size → P) : P := by
  have hx := h.bl hb
  obtain ⟨h1, h2, h3, h4, h5⟩ := hx
  exact k (Lib.hid (h.bl hb)) h1 h2 h3 h4 h5
theorem csHave {P : Prop} {W X : World} {b : Nat} {cs : List Value} (h : Cs b cs W) (hb : Below W.heap.size W X) (k : Hid (Cs b cs X) → P) : P := k (Lib.hid (h.bl hb))
theorem blAl {A W : World} (h : Below A.heap.size A W) (ob : Obj) : Below A.heap.size A (W.alloc ob) := h.alloc h.size ob
theorem blDr {A W : World} (h : Below A.heap.size A W) : Below A.heap.size A W.drew := ⟨h.os, h.tape, h.output, h.size, h.block⟩
theorem blHave {P : Prop} {A W X : World} (h : Below A.heap.size A W) (hb : Below W.heap.size W X) (k : Hid (Below A.heap.size A X) → P) : P := k (Lib.hid (h.trans (hb.mono h.size)))
theorem sgAl {W : World} {g : Sg} {a : Option Addr} {c : Nat} (h : IsSg W.heap.size W g a c) (ob : Obj) : IsSg (W.alloc ob).heap.size (W.alloc ob) g a c :=
  (h.below ((Below.refl _ _).alloc (Nat.le_refl _) _)).mono (by simp)
theorem sgDr {W : World} {g : Sg} {a : Option Addr} {c : Nat} (h : IsSg W.heap.size W g a c) : IsSg W.drew.heap.size W.drew g a c := h.below (blDr (Below.refl _ _))
theorem sgHave {P : Prop} {W X : World} {g : Sg} {a : Option Addr} {c : Nat} (h : IsSg W.heap.size W g a c) (hb : Below W.heap.size W X) (k : Hid (IsSg X.heap.size X g a c) → P) : P := k (Lib.hid ((h.below hb).mono hb.size))
theorem isAl {W : World} {z : List Int} {a : Option Addr} {c : Nat} (h : IsIs W.heap.size W z a c) (ob : Obj) : IsIs (W.alloc ob).heap.size (W.alloc ob) z a c :=
  (h.below ((Below.refl _ _).alloc (Nat.le_refl _) _)).mono (by simp)
theorem isDr {W : World} {z : List Int} {a : Option Addr} {c : Nat} (h : IsIs W.heap.size W z a c) : IsIs W.drew.heap.size W.drew z a c := h.below (blDr (Below.refl _ _))
theorem bl_of_drew {W u : World} (h : Below W.drew.heap.size W.drew u) : Below W.heap.size W u := ⟨h.os, h.tape, h.output, h.size, h.block⟩

end Go.Proofs.Ytbfanbaijombaaa
