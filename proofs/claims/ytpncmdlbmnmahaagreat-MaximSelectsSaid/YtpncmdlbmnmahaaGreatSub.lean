/- Sub: joined of Frs, Sub. -/
import Derived.Test.YtpncmdlbmnmahaaGreatQBa
import Derived.Test.YtpncmdlbmnmahaaGreatQBb
import Derived.Laws.OwnMore
import Derived.WalkSmall
import Derived.RangeFuncNested
import Derived.RangeFuncBound
import Derived.RangeFuncCalls
import Derived.RangeFuncLeaves
import Derived.Shelf.Abstract
import Derived.Shelf.RegionOpen
import Derived.OwnWalkIn
import Derived.TacticsInMore
import Derived.LoopNIn
import Derived.LoopIn
import Derived.Maps.AppendAt
import Derived.Deep.DeepMust
import Derived.Lib.OwnKind
/- The stack of the visit of subterms: its frames in memory. Plain lemmas; no program is named here. -/
namespace Go.Proofs.YtpncmdlbmnmahaaGreat
set_option linter.unusedVariables false
set_option linter.unusedSimpArgs false
open Go.RowKit
/-- A list of terms that is still to be visited: below n₀, or in block B. -/
def Fr (n₀ B : Nat) (W : World) (ts : List T) (v : Value) : Prop :=
  ∃ a c, v = .slice a ts.length c ∧ ts.length ≤ c ∧ c ≤ maxLen ∧ (ts = [] ∨ ∃ b o, a = some ⟨b, o, none⟩ ∧ (b < n₀ ∨ b = B) ∧ IsRow n₀ W ts b o)
def Frs (n₀ B : Nat) (W : World) : List (List T) → List Value → Prop
  | [], [] => True
  | f :: fs, v :: vs => Fr n₀ B W f v ∧ Frs n₀ B W fs vs
  | _, _ => False
theorem Frs.length {n₀ B : Nat} {W : World} : ∀ {fs : List (List T)} {vs : List Value}, Frs n₀ B W fs vs → fs.length = vs.length
  | [], [], _ => rfl
  | _ :: _, _ :: _, h => by simp [Frs.length h.2]
  | [], _ :: _, h => h.elim
  | _ :: _, [], h => h.elim
theorem Fr.keep {n₀ B : Nat} {W W' : World} (h : Below n₀ W W') (hB : W'.heap[B]? = W.heap[B]?) {ts : List T} {v : Value} (hf : Fr n₀ B W ts v) : Fr n₀ B W' ts v := by
  obtain ⟨a, c, h1, h2, h3, h4⟩ := hf
  refine ⟨a, c, h1, h2, h3, ?_⟩
  rcases h4 with h4 | ⟨b, o, h4, h5, h6⟩
  · exact .inl h4
  · refine .inr ⟨b, o, h4, h5, ?_⟩
    rcases h5 with h5 | rfl
    · exact h6.below h h5
    · exact IsRow.keep (fun b o hb _ => h.cell (p := ⟨b, o, none⟩) hb) ts (fun o _ => World.cell?_of_block (a := ⟨b, o, none⟩) hB) h6
theorem Frs.keep {n₀ B : Nat} {W W' : World} (h : Below n₀ W W') (hB : W'.heap[B]? = W.heap[B]?) : ∀ {fs : List (List T)} {vs : List Value}, Frs n₀ B W fs vs → Frs n₀ B W' fs vs
  | [], [], _ => trivial
  | _ :: _, _ :: _, hf => ⟨hf.1.keep h hB, Frs.keep h hB hf.2⟩
  | [], _ :: _, hf => hf.elim
  | _ :: _, [], hf => hf.elim
/-- What is still to come, the innermost list first. -/
def rest : List (List T) → List (Nat × T)
  | [] => []
  | f :: fs => T.subss (fs.length + 1) f ++ rest fs
/-- A number that every step lowers. -/
def left : List (List T) → Nat
  | [] => 0
  | f :: fs => 2 * T.sizes f + 1 + left fs
/-- Block B holds cells of type e'. -/
def FirstAt (B : Nat) (e' : TypeId) (W : World) : Prop := ∃ cs fz, W.heap[B]? = some (Obj.cells cs e' fz)
theorem FirstAt.keep {B : Nat} {e' : TypeId} {W W' : World} (h : FirstAt B e' W) (hB : W'.heap[B]? = W.heap[B]?) : FirstAt B e' W' := by
  obtain ⟨cs, fz, h⟩ := h; exact ⟨cs, fz, hB.trans h⟩
/-- Where a visit stands: the stack's value, its frames, what has come. -/
def At (n₀ B : Nat) (t : T) (J : List (Nat × T) → World → Prop) (e e' : TypeId) (gk : Nat) (v : Value) (W : World) (fs : List (List T)) (vs : List Value) (pre : List (Nat × T)) : Prop :=
  W.ownsRow (B + 1) e 1 v fs.length vs.reverse ∧ Frs n₀ B W fs vs ∧ J pre W ∧ pre ++ rest fs = T.subs 1 t ∧ fs.length ≤ pre.length + 1 ∧ gk = left fs ∧ B + 1 < W.heap.size ∧ FirstAt B e' W
theorem At.length_le {n₀ B : Nat} {t : T} {J : List (Nat × T) → World → Prop} {e e' : TypeId} {gk : Nat} {v : Value} {W : World} {fs : List (List T)} {vs : List Value} {pre : List (Nat × T)}
    (h : At n₀ B t J e e' gk v W fs vs pre) : fs.length ≤ t.size + 1 := by
  have h1 := congrArg List.length h.2.2.2.1
  rw [T.subs_length, List.length_append] at h1
  have := h.2.2.2.2.1
  omega
/-- The list after its first j+1 elements, as the slice expression gives it. -/
theorem Fr.tail {n₀ B : Nat} {W : World} {ts : List T} {b o c : Nat} (hc : ts.length ≤ c) (hm : c ≤ maxLen) (hb : b < n₀ ∨ b = B) (hr : IsRow n₀ W ts b o) {j : Nat} (hj : j < ts.length) :
    Fr n₀ B W (ts.drop (j + 1)) (.slice (some ⟨b, if c = j + 1 then o else o + (j + 1) * 2, none⟩) (ts.length - (j + 1)) (c - (j + 1))) := by
  refine ⟨_, _, by rw [List.length_drop], by rw [List.length_drop]; omega, by omega, ?_⟩
  by_cases h : c = j + 1
  · left; rw [List.drop_eq_nil_iff]; omega
  · right
    refine ⟨b, _, rfl, hb, ?_⟩
    rw [if_neg h]
    exact hr.drop (j + 1) (by omega)
theorem Fr.of_args {n₀ B : Nat} {W : World} {ts : List T} {a : Option Addr} {c : Nat} (h : IsArgs n₀ W ts a c) : Fr n₀ B W ts (.slice a ts.length c) := by
  obtain ⟨h1, h2, h3⟩ := h
  refine ⟨a, c, rfl, h1, h2, ?_⟩
  rcases h3 with h3 | ⟨b, o, h3, h4, h5⟩
  · exact .inl h3
  · exact .inr ⟨b, o, h3, .inl h4, h5⟩
theorem set_last (v v' : Value) (vs : List Value) : (v :: vs).reverse.set vs.length v' = (v' :: vs).reverse := by
  simp [List.set_append]
theorem get_last (v : Value) (vs : List Value) : (v :: vs).reverse[vs.length]? = some v := by
  simp
def AtE (n₀ B : Nat) (t : T) (J : List (Nat × T) → World → Prop) (e e' : TypeId) (gk : Nat) (v : Value) (W : World) : Prop := ∃ fs vs pre, At n₀ B t J e e' gk v W fs vs pre
def AtX (n₀ B : Nat) (t : T) (J : List (Nat × T) → World → Prop) (e e' : TypeId) (v : Value) (W : World) : Prop := ∃ gk, AtE n₀ B t J e e' gk v W
noncomputable def atM (n₀ B : Nat) (t : T) (J : List (Nat × T) → World → Prop) (e e' : TypeId) (v : Value) (W : World) : Nat := leastOf (fun gk => AtE n₀ B t J e e' gk v W)
theorem AtX.open {n₀ B : Nat} {t : T} {J : List (Nat × T) → World → Prop} {e e' : TypeId} {v : Value} {W : World} (h : AtX n₀ B t J e e' v W) : ∃ fs vs pre, At n₀ B t J e e' (left fs) v W fs vs pre ∧ atM n₀ B t J e e' v W = left fs := by
  obtain ⟨fs, vs, pre, hat⟩ := (leastOf_spec h).1
  have hg := hat.2.2.2.2.2.1
  refine ⟨fs, vs, pre, ?_, hg⟩
  rw [← hg]; exact hat
theorem AtX.lt {n₀ B : Nat} {t : T} {J : List (Nat × T) → World → Prop} {e e' : TypeId} {v v' : Value} {W W' : World} {k : Nat} (h : AtE n₀ B t J e e' k v' W') (hk : k < atM n₀ B t J e e' v W) : atM n₀ B t J e e' v' W' < atM n₀ B t J e e' v W := leastOf_lt h hk
theorem At.start {n₀ : Nat} {t : T} {J : List (Nat × T) → World → Prop} {e e' : TypeId} {a : Option Addr} {c : Nat} {W : World} (hn : n₀ ≤ W.heap.size) (hJ : AbidesChg W.heap.size e J) (hwf : (Lit.int .i64 t.head).wf = true) (hA : IsArgs n₀ W t.args a c) (h0 : J [] W) :
    AtE n₀ W.heap.size t J e e' (2 * t.size + 1) (.slice (some ⟨W.heap.size + 1, 0, none⟩) 1 1) ((W.alloc (.cells #[.int .i64 t.head, .slice a t.args.length c] e')).alloc (.cells #[.slice (some ⟨W.heap.size, 0, none⟩) 1 1] e)) := by
  have hB1 : Below W.heap.size W (W.alloc (.cells #[.int .i64 t.head, .slice a t.args.length c] e')) := (Below.refl _ _).alloc (Nat.le_refl _) _
  have hB2 : Below W.heap.size W ((W.alloc (.cells #[.int .i64 t.head, .slice a t.args.length c] e')).alloc (.cells #[.slice (some ⟨W.heap.size, 0, none⟩) 1 1] e)) := hB1.alloc (by simp) _
  refine ⟨[[t]], [.slice (some ⟨W.heap.size, 0, none⟩) 1 1], [], ?_, ⟨⟨_, _, rfl, Nat.le_refl _, by simp [maxLen], .inr ⟨W.heap.size, 0, rfl, .inr rfl, ?_⟩⟩, trivial⟩, hJ _ _ _ h0 ((Chg.alloc _ e W (Nat.le_refl _) _).trans (Chg.alloc _ e _ (by simp) _)), ?_, by simp, ?_, by simp, ⟨_, _, (Below.heap_alloc _ _ _ (by simp)).trans (World.alloc_heap_new W _)⟩⟩
  · have := World.ownsRow_lit (base := W.heap.size + 1) (e := e) (size := 1) (W.alloc (.cells #[.int .i64 t.head, .slice a t.args.length c] e')) #[.slice (some ⟨W.heap.size, 0, none⟩) 1 1] 1 (by simp) (by simp [maxLen]) (by simp)
    simpa using this
  · refine ⟨isT_iff.2 ⟨hwf, ?_, a, c, ?_, hA.below (hB2.mono hn)⟩, trivial⟩
    · simp [go_sem]
    · simp [go_sem]
  · simp [rest, T.subss]
  · simp [left, T.sizes]
/-- Within the list f, the innermost one: j of its elements have been visited. -/
def InX (n₀ B : Nat) (t : T) (J : List (Nat × T) → World → Prop) (e e' : TypeId) (f : List T) (fs : List (List T)) (vs : List Value) (a : Option Addr) (c : Nat) (stv : Value) (st i : Value) (W : World) : Prop :=
  ∃ (j : Nat) (pre : List (Nat × T)), j ≤ f.length ∧ i = .int .i64 j ∧ st = stv ∧ W.ownsRow (B + 1) e 1 stv (fs.length + 1) (.slice a f.length c :: vs).reverse ∧ Frs n₀ B W (f :: fs) (.slice a f.length c :: vs) ∧ J pre W ∧
    pre ++ (T.subss (fs.length + 1) (f.drop j) ++ rest fs) = T.subs 1 t ∧ fs.length ≤ pre.length ∧ B + 1 < W.heap.size ∧ FirstAt B e' W
theorem Frs.head_elem {n₀ B : Nat} {W : World} {f : List T} {fs : List (List T)} {vs : List Value} {a : Option Addr} {c : Nat} (h : Frs n₀ B W (f :: fs) (.slice a f.length c :: vs)) {j : Nat} (hj : j < f.length) :
    ∃ (b o : Nat) (s : T) (a' : Option Addr) (c' : Nat), a = some ⟨b, o, none⟩ ∧ (b < n₀ ∨ b = B) ∧ f[j]? = some s ∧ (Lit.int .i64 s.head).wf = true ∧ W.cell? ⟨b, o + j * 2, none⟩ = some (.int .i64 s.head) ∧
      W.cell? ⟨b, o + j * 2 + 1, none⟩ = some (.slice a' s.args.length c') ∧ IsArgs n₀ W s.args a' c' ∧ IsRow n₀ W f b o := by
  obtain ⟨⟨a₁, c₁, h1, h2, h3, h4⟩, _⟩ := h
  cases h1
  rcases h4 with rfl | ⟨b, o, rfl, h4, h5⟩
  · simp at hj
  · obtain ⟨p0, p1, a', c', p2, p3⟩ := isT_iff.1 (h5.at (List.getElem?_eq_getElem hj))
    exact ⟨b, o, _, a', c', rfl, h4, List.getElem?_eq_getElem hj, p0, p1, p2, p3, h5⟩
theorem ownsRow_block {w w' : World} {base : Nat} {e : TypeId} {size g n cap : Nat} {xs : List Value} (h : w.ownsRow base e size (.slice (some ⟨g, 0, none⟩) n cap) n xs) (hg : w'.heap[g]? = w.heap[g]?) : w'.ownsRow base e size (.slice (some ⟨g, 0, none⟩) n cap) n xs := by
  refine ⟨h.1, ?_⟩
  rcases h.2 with ⟨h', _⟩ | ⟨g', cap', cur, h', hb, hgg, r⟩
  · cases h'
  · cases h'
    exact .inr ⟨g, cap, cur, rfl, hb, hg.trans hgg, r⟩
theorem ownsRow_cap {w : World} {base : Nat} {e : TypeId} {size g n cap : Nat} {xs : List Value} (h : w.ownsRow base e size (.slice (some ⟨g, 0, none⟩) n cap) n xs) : n ≤ cap ∧ cap ≤ maxLen := by
  rcases h.2 with ⟨h', _⟩ | ⟨g', cap', cur, h', hb, hgg, h1, h2, _⟩
  · cases h'
  · cases h'
    exact ⟨h1, h2⟩
theorem left_push {f : List T} {j : Nat} {s : T} (hs : f[j]? = some s) (fs : List (List T)) : left (s.args :: f.drop (j + 1) :: fs) < left (f :: fs) := by
  have h1 := T.sizes_append (f.take j) (f.drop j)
  rw [List.take_append_drop, T.sizes_drop hs, T.size_eq] at h1
  simp only [left]; omega
theorem At.push {n₀ B : Nat} {t : T} {J : List (Nat × T) → World → Prop} {e e' : TypeId} {f : List T} {fs : List (List T)} {vs : List Value} {v newv v' : Value} {a₁ : Option Addr} {c₁ g cap j : Nat} {s : T} {pre : List (Nat × T)} {W3 w1 : World} {tmp : Obj}
    (hJ : AbidesChg B e J) (hn : n₀ ≤ B) (hO : W3.ownsRow (B + 1) e 1 (.slice (some ⟨g, 0, none⟩) (fs.length + 1) cap) (fs.length + 1) (v :: vs).reverse) (hF : Frs n₀ B W3 (f :: fs) (v :: vs)) (hA : IsArgs n₀ W3 s.args a₁ c₁) (hs : f[j]? = some s)
    (hP : pre ++ (T.subss (fs.length + 1) (f.drop j) ++ rest fs) = T.subs 1 t) (hj : J (pre ++ [(fs.length + 1, s)]) W3) (hnew : Fr n₀ B W3 (f.drop (j + 1)) newv) (hl : fs.length ≤ pre.length) (hsz : B + 1 < W3.heap.size) (hfirst : FirstAt B e' W3)
    (hown : w1.ownsRow (B + 1) e 1 v' (fs.length + 1 + 1) ((v :: vs).reverse.set fs.length newv ++ [.slice a₁ s.args.length c₁])) (hgrow : ((W3.setCell ⟨g, fs.length, none⟩ newv).alloc tmp).grownBy w1 (some g)) :
    AtE n₀ B t J e e' (left (s.args :: f.drop (j + 1) :: fs)) v' w1 := by
  have hvl : fs.length = vs.length := hF.2.length
  have hg := (hO.lt g rfl).1
  have hB : Below (B + 1) W3 w1 := by
    refine ((((Below.refl (B + 1) W3).setCell (p := ⟨g, fs.length, none⟩) hg newv).alloc ?_ tmp)).grown hgrow ?_ ?_
    · simp; omega
    · simp; omega
    · intro k e; cases e; exact hg
  have hBB := hB.block B (by omega)
  have hC : Chg B e W3 w1 := by
    refine ⟨hB.mono (by omega), fun b cs e₁ fz hb he => ?_⟩
    have hlt := (Array.getElem?_eq_some_iff.1 hb).1
    have hbg : b ≠ g := by
      intro h; subst h
      rcases hO.2 with ⟨h', _⟩ | ⟨g', cap', cur, h', _, hgg, _⟩
      · cases h'
      · cases h'; rw [hb] at hgg; cases hgg; exact he rfl
    refine (hgrow.block b (by simp; omega) (by simpa using hbg)).trans ((Below.heap_alloc _ _ _ (by simpa using hlt)).trans (Below.heap_setCell _ _ _ _ hbg))
  refine ⟨s.args :: f.drop (j + 1) :: fs, .slice a₁ s.args.length c₁ :: newv :: vs, pre ++ [(fs.length + 1, s)], ?_, ⟨Fr.of_args (hA.below (hB.mono (by omega))), hnew.keep (hB.mono (by omega)) hBB, hF.2.keep (hB.mono (by omega)) hBB⟩, hJ _ _ _ hj hC, ?_, by simp; omega, rfl, by have := hB.size; omega, hfirst.keep hBB⟩
  · rw [hvl, set_last] at hown
    rw [show (Value.slice a₁ s.args.length c₁ :: newv :: vs).reverse = (newv :: vs).reverse ++ [.slice a₁ s.args.length c₁] from by simp]
    rw [show (s.args :: f.drop (j + 1) :: fs).length = vs.length + 1 + 1 from by simp [hvl]]
    exact hown
  · rw [← hP, T.subss_drop _ hs, T.subs_eq]
    simp [rest]
theorem At.pop {n₀ B : Nat} {t : T} {J : List (Nat × T) → World → Prop} {e e' : TypeId} {f : List T} {fs : List (List T)} {vs : List Value} {v : Value} {g cap : Nat} {pre : List (Nat × T)} {W3 : World}
    (hO : W3.ownsRow (B + 1) e 1 (.slice (some ⟨g, 0, none⟩) (fs.length + 1) cap) (fs.length + 1) (v :: vs).reverse) (hF : Frs n₀ B W3 (f :: fs) (v :: vs))
    (hP : pre ++ (T.subss (fs.length + 1) (f.drop f.length) ++ rest fs) = T.subs 1 t) (hj : J pre W3) (hl : fs.length ≤ pre.length) (hsz : B + 1 < W3.heap.size) (hfirst : FirstAt B e' W3) :
    AtE n₀ B t J e e' (left fs) (.slice (some ⟨g, 0, none⟩) fs.length cap) W3 := by
  have hvl : fs.length = vs.length := hF.2.length
  refine ⟨fs, vs, pre, ?_, hF.2, hj, by simpa [T.subss] using hP, by omega, rfl, hsz, hfirst⟩
  rw [List.reverse_cons] at hO
  exact ownsRow_pop (by simp [hvl]) hO
/-- The post of the visit. -/
def subPost (t : T) (J Jx : List (Nat × T) → World → Prop) (e : Ending) (W' : World) : Prop :=
  (∃ v, e = .returned v) ∧ ((∃ xs, xs = T.subs 1 t ∧ J xs W') ∨ (∃ pre, pre <+: T.subs 1 t ∧ Jx pre W'))
end Go.Proofs.YtpncmdlbmnmahaaGreat
/- The iterator that visits the subterms of a term: its contract. -/
namespace Go.Proofs.YtpncmdlbmnmahaaGreat
set_option linter.unusedVariables false
set_option linter.unusedSimpArgs false
open Go.RowKit Go.Shelf
attribute [local go_sem] Oper.semAt_some
/-- What may come next in a visit, and how it is handed over. -/
def subMay (n₀ : Nat) (t : T) (pre : List (Nat × T)) (x : Nat × T) (vs : Array Value) (W : World) : Prop :=
  pre ++ [x] <+: T.subs 1 t ∧ (Lit.int .i64 x.2.head).wf = true ∧ ∃ a c, vs = #[.int .i64 x.1, tm x.2.head a x.2.args.length c] ∧ IsArgs n₀ W x.2.args a c
/-- The types of the iterator's own blocks. -/
def subOwn (e : TypeId) : Bool := e == 40 || e == 42
theorem info22 : (Tryz.prog.info? 40).map (fun i => (i.zero, i.size, i.bytes)) = some (some (.slice none 0 0), 1, 24) := by kernel_rfl
theorem cell_one_at (w : World) (v : Value) (t : TypeId) (k : Nat) (hk : k = w.heap.size) : ∀ (j : Nat) (u : Value), [v][j]? = some u → (w.alloc (.cells #[v] t)).cell? ((⟨k, 0, none⟩ : Addr).add j) = some u := by
  subst hk; exact cell_one_new w v t
set_option maxRecDepth 100000 in
set_option maxHeartbeats 4000000 in
theorem subterms1_in (F : Fence) (n : Nat) (hF : F.fn 132) (hro : F.round = none) (hn : 1 ≤ n) (t : T) (ht : t.size ≤ 1000000000000) (l Bt n₀ : Nat) (a : Option Addr) (c : Nat) (J Jx : List (Nat × T) → World → Prop) (W : World)
    (hJ : AbidesChg W.heap.size 40 J) (hn₀ : n₀ ≤ W.heap.size) (hwf : (Lit.int .i64 t.head).wf = true) (hc0 : W.cell? ⟨Bt, 0, none⟩ = some (.int .i64 t.head)) (hc1 : W.cell? ⟨Bt, 1, none⟩ = some (.slice a t.args.length c)) (hA : IsArgs n₀ W t.args a c)
    (hY : ∀ pre x vs W1, J pre W1 → W.heap.size ≤ W1.heap.size → subMay n₀ t pre x vs W1 → YieldAt F (n - 1) Tryz.prog l vs W1 fun e W' =>
      (e = .returned (.bool true) ∧ J (pre ++ [x]) W' ∧ KeptO n₀ W.heap.size subOwn W1 W') ∨ (e = .returned (.bool false) ∧ Jx (pre ++ [x]) W'))
    (h0 : J [] W) :
    CallsIn F n Tryz.prog 132 #[.func (.yield l) #[] #[], .pointer (some ⟨Bt, 0, none⟩)] W (subPost t J Jx) := by
  have HY := Lib.hid hY
  have HJ := Lib.hid hJ
  have HA := Lib.hid hA
  clear hY hJ hA
  refine callsIn_of_wp Tryz.func132 rfl hF ?_ hro
  simp only [Tryz.ntmps132, List.size_toArray, List.length_cons, List.length_nil, Nat.reduceAdd, Nat.reduceSub, Array.replicate_succ, Array.replicate_zero, List.push_toArray, List.append_toArray, List.nil_append, List.cons_append]
  refine wpIn_scope ?_
  gi_wp2
  refine wpIn_label ?_
  gi_wp2
  gi_loopw [3] (fun v wr => AtX n₀ W.heap.size t J 40 42 v wr) (fun v wr => atM n₀ W.heap.size t J 40 42 v wr)
  case atStart => exact ⟨_, At.start hn₀ HJ.out hwf HA.out h0⟩
  case round =>
    obtain ⟨fs, vs, pre, hat, hK⟩ := hrel.open
    have HK := Lib.hid hK
    clear hrel hK
    have hfl := hat.length_le
    obtain ⟨hown, hfrs, hjp, hpre, hlen, _, hsz, hfst⟩ := hat
    have HFST := Lib.hid hfst
    clear hfst
    have HJP := Lib.hid hjp
    have HF := Lib.hid hfrs
    have HP := Lib.hid hpre
    clear hjp hfrs hpre
    cases fs with
    | nil =>
      have hu : ∃ a' c', u3 = .slice a' 0 c' := by
        rcases hown.2 with ⟨h, _⟩ | ⟨g, cap, cur, h, _⟩
        · exact ⟨_, _, h⟩
        · exact ⟨_, _, h⟩
      obtain ⟨a', c', rfl⟩ := hu
      clear hown hlen hfl
      gi_wp2
      go_end0
      exact ⟨⟨_, rfl⟩, .inl ⟨pre, by simpa [rest] using HP.out, HJP.out⟩⟩
    | cons f fs =>
      cases vs with
      | nil => exact HF.out.elim
      | cons v vs =>
        obtain ⟨⟨a', c', rfl, hfc, hcm, hrow⟩, hF2⟩ := HF.out
        obtain ⟨g, cap, rfl⟩ := ownsRow_succ hown
        have hvl : fs.length = vs.length := hF2.length
        have hcell : wr.cell? ⟨g, fs.length, none⟩ = some (.slice a' f.length c') := by
          rw [hown.cellAt fs.length (by simp), hvl, get_last]
        have HO := Lib.hid hown
        have HVL := Lib.hid hvl
        have HF2 := Lib.hid hF2
        have HR := Lib.hid hrow
        clear hown hvl hF2 hrow
        simp only [List.length_cons] at hfl hlen
        unfold maxLen at hcm
        gi_wp2
        gi_loopw [3, 23] (fun st i wq => InX n₀ W.heap.size t J 40 42 f fs vs a' c' (.slice (some ⟨g, 0, none⟩) (fs.length + 1) cap) st i wq) (fun _ i _ => f.length - (intOf i).toNat)
        case atStart => exact ⟨0, pre, Nat.zero_le _, rfl, rfl, HO.out, HF.out, HJP.out, by simpa [rest] using HP.out, by omega, hsz, HFST.out⟩
        case round =>
          clear HJP HP HF HO HF2 HR hcell hlen HFST
          obtain ⟨j, pre, hj, rfl, rfl, hown, hfrs, hjp, hpre, hlen, hsz2, hfst⟩ := hrel
          have HFST := Lib.hid hfst
          clear hfst
          have hcell : wr.cell? ⟨g, fs.length, none⟩ = some (.slice a' f.length c') := by
            rw [hown.cellAt fs.length (by simp), HVL.out, get_last]
          have HO := Lib.hid hown
          have HF := Lib.hid hfrs
          have HJP := Lib.hid hjp
          have HP := Lib.hid hpre
          clear hown hfrs hjp hpre
          by_cases hlt : j < f.length
          · obtain ⟨b, o, s, a₁, c₁, rfl, hb, hs, hswf, hd1, hd2, hsA, hrow⟩ := HF.out.head_elem hlt
            have hmay : subMay n₀ t pre (fs.length + 1, s) #[.int .i64 ((fs.length : Int) + 1), tm s.head a₁ s.args.length c₁] (wr.alloc (tmCells s.head a₁ s.args.length c₁)) := by
              refine ⟨?_, hswf, a₁, c₁, by simp, hsA.below ((Below.refl _ _).alloc (by omega) _)⟩
              have h1 := HP.out
              rw [T.subss_drop _ hs, T.subs_eq] at h1
              exact ⟨T.subss (fs.length + 1 + 1) s.args ++ T.subss (fs.length + 1) (f.drop (j + 1)) ++ rest fs, by rw [← h1]; simp⟩
            obtain ⟨fn, tmps, assign, body, hy, hR⟩ := HY.out pre _ _ _ (HJ.out _ _ _ HJP.out (Chg.alloc _ _ wr (by omega) (tmCells s.head a₁ s.args.length c₁))) (by simp; omega) hmay
            have HS := Lib.hid hs
            have HSA := Lib.hid hsA
            have HRW := Lib.hid hrow
            clear hs hsA hrow hmay hswf
            gi_wp2
            refine hR.mono ?_
            clear hR hy
            rintro e W3 (⟨rfl, hJ3, hk3⟩ | ⟨rfl, hJx3⟩)
            · have hbx : W3.cell? ⟨wr.heap.size, 1, none⟩ = some (.slice a₁ s.args.length c₁) :=
                (World.cell?_of_block (a := ⟨wr.heap.size, 1, none⟩) (hk3.at (b := wr.heap.size) (by omega) (World.alloc_heap_new wr (tmCells s.head a₁ s.args.length c₁)) rfl)).trans (by simp [go_sem])
              have hgl := HO.out.lt g rfl
              obtain ⟨cg, fg, hkind⟩ := Lib.ownsRow_kind HO.out g rfl
              have hg0 : (wr.alloc (tmCells s.head a₁ s.args.length c₁)).heap[g]? = wr.heap[g]? := Below.heap_alloc _ _ _ hgl.2
              have hg3 : W3.heap[g]? = wr.heap[g]? := (hk3.at (by omega) (hg0.trans hkind) rfl).trans hg0
              obtain ⟨cf, ff, hfk⟩ := HFST.out
              have hb0 : (wr.alloc (tmCells s.head a₁ s.args.length c₁)).heap[W.heap.size]? = wr.heap[W.heap.size]? := Below.heap_alloc _ _ _ (by omega)
              have hB3 : W3.heap[W.heap.size]? = wr.heap[W.heap.size]? := (hk3.at (Nat.le_refl _) (hb0.trans hfk) rfl).trans hb0
              have hfst3 := HFST.out.keep hB3
              clear hkind hg0 hfk hb0 HFST
              have HFST := Lib.hid hfst3
              clear hfst3
              have hlow : Below n₀ wr W3 := ((Below.refl _ _).alloc (by omega) _).trans hk3.1
              have hs3 : wr.heap.size + 1 ≤ W3.heap.size := by have := hk3.1.size; simpa using this
              have hown3 := ownsRow_block HO.out hg3
              have hfrs3 := HF.out.keep hlow hB3
              have hsA3 := HSA.out.below hlow
              have hrow3 : IsRow n₀ W3 f b o := IsRow.keep (fun b o hb _ => hlow.cell (p := ⟨b, o, none⟩) hb) f (fun o _ => by
                rcases hb with hb | rfl
                · exact hlow.cell (p := ⟨b, o, none⟩) hb
                · exact World.cell?_of_block (a := ⟨W.heap.size, o, none⟩) hB3) HRW.out
              clear HRW
              have HRW := Lib.hid hrow3
              clear hrow3
              have hfz : W3.frozen? ⟨g, fs.length, none⟩ = false := hown3.frozenAt fs.length
              have hcell3 : W3.cell? ⟨g, fs.length, none⟩ = some (.slice (some ⟨b, o, none⟩) f.length c') := by
                rw [hown3.cellAt fs.length (by simp), HVL.out, get_last]
              have HJ3 := Lib.hid hJ3
              have HO3 := Lib.hid hown3
              have HF3 := Lib.hid hfrs3
              have HSA3 := Lib.hid hsA3
              have HGL := Lib.hid hgl
              clear hJ3 hown3 hfrs3 hsA3 hgl hg3 hB3 hk3 HO HF HSA HJP hcell hd1 hd2 hlow
              by_cases hz : s.args.length = 0
              · rw [hz] at hbx ⊢
                gi_wp2
                go_roundw
                case rel =>
                  refine ⟨j + 1, pre ++ [(fs.length + 1, s)], by omega, by go_num, rfl, HO3.out, HF3.out, HJ3.out, ?_, by simp; omega, by omega, HFST.out⟩
                  have h1 := HP.out
                  rw [T.subss_drop _ HS.out, T.subs_eq, List.eq_nil_of_length_eq_zero hz] at h1
                  simpa [T.subss] using h1
                case measure => simp [intOf]; omega
              · have hz' : 0 < s.args.length := by omega
                obtain ⟨hg1, hg2⟩ := HGL.out
                have hbx' : ∀ u, (W3.setCell ⟨g, fs.length, none⟩ u).cell? ⟨wr.heap.size, 1, none⟩ = some (.slice a₁ s.args.length c₁) := fun u =>
                  (World.cell?_of_block (a := ⟨wr.heap.size, 1, none⟩) (Below.heap_setCell W3 ⟨g, fs.length, none⟩ u wr.heap.size (by simp; omega))).trans hbx
                obtain ⟨i0, hi, hz0, hz1, hz2⟩ := info_parts info22
                by_cases hcj : c' = j + 1
                · subst hcj
                  gi_wp2_with (gi_at_builtin; go_must (refine wpListIn_append_own _ rfl _ _ 156 rfl (W.heap.size + 1) 40 i0 (.slice none 0 0) 1 24 Tryz.underlying156 hi hz0 hz1 hz2 rfl (by decide) _ _ _ rfl ((HO3.out.stored fs.length _).1.alloc _) ⟨W3.heap.size, 0, none⟩ 1 1 [.slice a₁ s.args.length c₁] rfl rfl (cell_one_at _ _ _ _ (by simp)) (by simp [Value.oneCell']) (by unfold maxLen; omega) (by omega) (by simp; omega) ?_); intro v' w1 hown' hgrow _)
                  have hf : Fr n₀ W.heap.size W3 (f.drop (j + 1)) (.slice (some ⟨b, o, none⟩) 0 0) := by
                    have hnil : f.drop (j + 1) = [] := by rw [List.drop_eq_nil_iff]; omega
                    rw [hnil]
                    exact ⟨_, 0, rfl, Nat.le_refl _, by simp [maxLen], .inl rfl⟩
                  have hat := At.push HJ.out hn₀ HO3.out HF3.out HSA3.out HS.out HP.out HJ3.out hf hlen (by omega) HFST.out hown' hgrow
                  exact ⟨⟨_, hat⟩, AtX.lt hat (by rw [HK.out]; exact left_push HS.out fs)⟩
                · gi_wp2_with (gi_at_builtin; go_must (refine wpListIn_append_own _ rfl _ _ 156 rfl (W.heap.size + 1) 40 i0 (.slice none 0 0) 1 24 Tryz.underlying156 hi hz0 hz1 hz2 rfl (by decide) _ _ _ rfl ((HO3.out.stored fs.length _).1.alloc _) ⟨W3.heap.size, 0, none⟩ 1 1 [.slice a₁ s.args.length c₁] rfl rfl (cell_one_at _ _ _ _ (by simp)) (by simp [Value.oneCell']) (by unfold maxLen; omega) (by omega) (by simp; omega) ?_); intro v' w1 hown' hgrow _)
                  have hf : Fr n₀ W.heap.size W3 (f.drop (j + 1)) (.slice (some ⟨b, o + (j + 1) * 2, none⟩) (f.length - (j + 1)) (c' - (j + 1))) := by
                    have h := Fr.tail (n₀ := n₀) (B := W.heap.size) (W := W3) hfc hcm hb HRW.out hlt
                    rw [if_neg hcj] at h
                    exact h
                  have hat := At.push HJ.out hn₀ HO3.out HF3.out HSA3.out HS.out HP.out HJ3.out hf hlen (by omega) HFST.out hown' hgrow
                  exact ⟨⟨_, hat⟩, AtX.lt hat (by rw [HK.out]; exact left_push HS.out fs)⟩
            · gi_wp2
              show bodyPost Tryz.prog Tryz.f132 (subPost t J Jx) .normal _ _
              go_end0
              refine ⟨⟨_, rfl⟩, .inr ⟨pre ++ [(fs.length + 1, s)], ?_, hJx3⟩⟩
              have h1 := HP.out
              rw [T.subss_drop _ HS.out, T.subs_eq] at h1
              exact ⟨T.subss (fs.length + 1 + 1) s.args ++ T.subss (fs.length + 1) (f.drop (j + 1)) ++ rest fs, by rw [← h1]; simp⟩
          · obtain rfl : j = f.length := by omega
            have hcap := ownsRow_cap HO.out
            unfold maxLen at hcap
            obtain ⟨hcap1, hcap2⟩ := hcap
            gi_wp2
            have hat := At.pop HO.out HF.out HP.out HJP.out hlen hsz2 HFST.out
            exact ⟨⟨_, hat⟩, AtX.lt hat (by rw [HK.out]; simp only [left]; omega)⟩
/-- **subterms(t)'s value visits all subterms, a term before its arguments, with their levels.** -/
theorem subterms_seqO (F : Fence) (n : Nat) (hF : F.fn 132) (hro : F.round = none) (hn : 1 ≤ n) (t : T) (ht : t.size ≤ 1000000000000) (Bt n₀ : Nat) (a : Option Addr) (c : Nat) (w : World)
    (hn₀ : n₀ ≤ w.heap.size) (hBt : Bt < w.heap.size) (hwf : (Lit.int .i64 t.head).wf = true) (hc0 : w.cell? ⟨Bt, 0, none⟩ = some (.int .i64 t.head)) (hc1 : w.cell? ⟨Bt, 1, none⟩ = some (.slice a t.args.length c)) (hA : IsArgs n₀ w t.args a c) :
    SeqO F n Tryz.prog 132 #[.pointer (some ⟨Bt, 0, none⟩)] n₀ 40 subOwn (subMay n₀ t) (fun xs => xs = T.subs 1 t) (fun pre => pre <+: T.subs 1 t) w := fun l J Jx W hW hJ _ hY h0 =>
  subterms1_in F n hF hro hn t ht l Bt n₀ a c J Jx W hJ (Nat.le_trans hn₀ hW.size) hwf ((hW.cell (p := ⟨Bt, 0, none⟩) hBt).trans hc0) ((hW.cell (p := ⟨Bt, 1, none⟩) hBt).trans hc1) (hA.below (hW.mono hn₀)) hY h0
theorem subterms_seq (F : Fence) (n : Nat) (hF : F.fn 132) (hro : F.round = none) (hn : 1 ≤ n) (t : T) (ht : t.size ≤ 1000000000000) (Bt n₀ : Nat) (a : Option Addr) (c : Nat) (w : World)
    (hn₀ : n₀ ≤ w.heap.size) (hBt : Bt < w.heap.size) (hwf : (Lit.int .i64 t.head).wf = true) (hc0 : w.cell? ⟨Bt, 0, none⟩ = some (.int .i64 t.head)) (hc1 : w.cell? ⟨Bt, 1, none⟩ = some (.slice a t.args.length c)) (hA : IsArgs n₀ w t.args a c) :
    SeqB F n Tryz.prog 132 #[.pointer (some ⟨Bt, 0, none⟩)] n₀ (subMay n₀ t) (fun xs => xs = T.subs 1 t) (fun pre => pre <+: T.subs 1 t) w :=
  (subterms_seqO F n hF hro hn t ht Bt n₀ a c w hn₀ hBt hwf hc0 hc1 hA).toB
theorem subMay.size {n₀ : Nat} {t : T} {pre : List (Nat × T)} {x : Nat × T} {vs : Array Value} {W : World} (h : subMay n₀ t pre x vs W) : vs.size = 2 := by
  obtain ⟨_, _, a, c, rfl, _⟩ := h; rfl
theorem subMay.below {n₀ : Nat} {t : T} {pre : List (Nat × T)} {x : Nat × T} {vs : Array Value} {W W' : World} (h : subMay n₀ t pre x vs W) (hb : Below n₀ W W') : subMay n₀ t pre x vs W' := by
  obtain ⟨h1, h2, a, c, h3, h4⟩ := h; exact ⟨h1, h2, a, c, h3, h4.below hb⟩
theorem subMay.length {n₀ : Nat} {t : T} {pre : List (Nat × T)} {x : Nat × T} {vs : Array Value} {W : World} (h : subMay n₀ t pre x vs W) : pre.length < t.size := by
  obtain ⟨h1, _⟩ := h
  have := h1.length_le
  rw [T.subs_length] at this; simp at this; omega
end Go.Proofs.YtpncmdlbmnmahaaGreat
