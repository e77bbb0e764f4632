/- The stack of the visit of subterms: its frames in memory. Plain lemmas; no program is named here. -/
import Derived.Test.YtfkaecjdncjggaaTm
import Derived.Test.YtfkaecjdncjggaaRf
import Derived.Laws.OwnMore
import Derived.WalkSmall
namespace Go.Proofs.Ytfkaecjdncjggaa
set_option linter.unusedVariables false
set_option linter.unusedSimpArgs false
open Go.RowKit

/-- A list of terms that is still to be visited: below n₀, or in block B. -/
def Fr (n₀ B : Nat) (W : World) (ts : List T) (v : Value) : Prop :=
  ∃ a c, v = .slice a ts.length c ∧ ts.length ≤ c ∧ c ≤ maxLen ∧ (ts = [] ∨ ∃ b o, a = some ⟨b, o, none⟩ ∧ (b < n₀ ∨ b = B) ∧ IsRow n₀ W ts b o)

def Frs (n₀ B : Nat) (W : World) : List (List T) → List Value → Prop
  | [], [] => True
  | f :: fs, v :: vs => Fr n₀ B W f v ∧ Frs n₀ B W fs vs
  | _, _ => False

theorem Frs.length {n₀ B : Nat} {W : World} : ∀ {fs : List (List T)} {vs : List Value}, Frs n₀ B W fs vs → fs.length = vs.length
  | [], [], _ => rfl
  | _ :: _, _ :: _, h => by simp [Frs.length h.2]
  | [], _ :: _, h => h.elim
  | _ :: _, [], h => h.elim

theorem Fr.keep {n₀ B : Nat} {W W' : World} (h : Below n₀ W W') (hB : W'.heap[B]? = W.heap[B]?) {ts : List T} {v : Value} (hf : Fr n₀ B W ts v) : Fr n₀ B W' ts v := by
  obtain ⟨a, c, h1, h2, h3, h4⟩ := hf
  refine ⟨a, c, h1, h2, h3, ?_⟩
  rcases h4 with h4 | ⟨b, o, h4, h5, h6⟩
  · exact .inl h4
  · refine .inr ⟨b, o, h4, h5, ?_⟩
    rcases h5 with h5 | rfl
    · exact h6.below h h5
    · exact IsRow.keep (fun b o hb _ => h.cell (p := ⟨b, o, none⟩) hb) ts (fun o _ => World.cell?_of_block (a := ⟨b, o, none⟩) hB) h6

theorem Frs.keep {n₀ B : Nat} {W W' : World} (h : Below n₀ W W') (hB : W'.heap[B]? = W.heap[B]?) : ∀ {fs : List (List T)} {vs : List Value}, Frs n₀ B W fs vs → Frs n₀ B W' fs vs
  | [], [], _ => trivial
  | _ :: _, _ :: _, hf => ⟨hf.1.keep h hB, Frs.keep h hB hf.2⟩
  | [], _ :: _, hf => hf.elim
  | _ :: _, [], hf => hf.elim

/-- What is still to come, the innermost list first. -/
def rest : List (List T) → List (Nat × T)
  | [] => []
  | f :: fs => T.subss (fs.length + 1) f ++ rest fs
/-- A number that every step lowers. -/
def left : List (List T) → Nat
  | [] => 0
  | f :: fs => 2 * T.sizes f + 1 + left fs

/-- Block B holds cells of type e'. -/
def FirstAt (B : Nat) (e' : TypeId) (W : World) : Prop := ∃ cs fz, W.heap[B]? = some (Obj.cells cs e' fz)
theorem FirstAt.keep {B : Nat} {e' : TypeId} {W W' : World} (h : FirstAt B e' W) (hB : W'.heap[B]? = W.heap[B]?) : FirstAt B e' W' := by
  obtain ⟨cs, fz, h⟩ := h; exact ⟨cs, fz, hB.trans h⟩

/-- Where a visit stands: the stack's value, its frames, what has come. -/
def At (n₀ B : Nat) (t : T) (J : List (Nat × T) → World → Prop) (e e' : TypeId) (gk : Nat) (v : Value) (W : World) (fs : List (List T)) (vs : List Value) (pre : List (Nat × T)) : Prop :=
  W.ownsRow (B + 1) e 1 v fs.length vs.reverse ∧ Frs n₀ B W fs vs ∧ J pre W ∧ pre ++ rest fs = T.subs 1 t ∧ fs.length ≤ pre.length + 1 ∧ gk = left fs ∧ B + 1 < W.heap.size ∧ FirstAt B e' W

theorem At.length_le {n₀ B : Nat} {t : T} {J : List (Nat × T) → World → Prop} {e e' : TypeId} {gk : Nat} {v : Value} {W : World} {fs : List (List T)} {vs : List Value} {pre : List (Nat × T)}
    (h : At n₀ B t J e e' gk v W fs vs pre) : fs.length ≤ t.size + 1 := by
  have h1 := congrArg List.length h.2.2.2.1
  rw [T.subs_length, List.length_append] at h1
  have := h.2.2.2.2.1
  omega

/-- The list after its first j+1 elements, as the slice expression gives it. -/
theorem Fr.tail {n₀ B : Nat} {W : World} {ts : List T} {b o c : Nat} (hc : ts.length ≤ c) (hm : c ≤ maxLen) (hb : b < n₀ ∨ b = B) (hr : IsRow n₀ W ts b o) {j : Nat} (hj : j < ts.length) :
    Fr n₀ B W (ts.drop (j + 1)) (.slice (some ⟨b, if c = j + 1 then o else o + (j + 1) * 2, none⟩) (ts.length - (j + 1)) (c - (j + 1))) := by
  refine ⟨_, _, by rw [List.length_drop], by rw [List.length_drop]; omega, by omega, ?_⟩
  by_cases h : c = j + 1
  · left; rw [List.drop_eq_nil_iff]; omega
  · right
    refine ⟨b, _, rfl, hb, ?_⟩
    rw [if_neg h]
    exact hr.drop (j + 1) (by omega)

theorem Fr.of_args {n₀ B : Nat} {W : World} {ts : List T} {a : Option Addr} {c : Nat} (h : IsArgs n₀ W ts a c) : Fr n₀ B W ts (.slice a ts.length c) := by
  obtain ⟨h1, h2, h3⟩ := h
  refine ⟨a, c, rfl, h1, h2, ?_⟩
  rcases h3 with h3 | ⟨b, o, h3, h4, h5⟩
  · exact .inl h3
  · exact .inr ⟨b, o, h3, .inl h4, h5⟩

theorem set_last (v v' : Value) (vs : List Value) : (v :: vs).reverse.set vs.length v' = (v' :: vs).reverse := by
  simp [List.set_append]
theorem get_last (v : Value) (vs : List Value) : (v :: vs).reverse[vs.length]? = some v := by
  simp

def AtE (n₀ B : Nat) (t : T) (J : List (Nat × T) → World → Prop) (e e' : TypeId) (gk : Nat) (v : Value) (W : World) : Prop := ∃ fs vs pre, At n₀ B t J e e' gk v W fs vs pre

def AtX (n₀ B : Nat) (t : T) (J : List (Nat × T) → World → Prop) (e e' : TypeId) (v : Value) (W : World) : Prop := ∃ gk, AtE n₀ B t J e e' gk v W
noncomputable def atM (n₀ B : Nat) (t : T) (J : List (Nat × T) → World → Prop) (e e' : TypeId) (v : Value) (W : World) : Nat := leastOf (fun gk => AtE n₀ B t J e e' gk v W)

theorem AtX.open {n₀ B : Nat} {t : T} {J : List (Nat × T) → World → Prop} {e e' : TypeId} {v : Value} {W : World} (h : AtX n₀ B t J e e' v W) : ∃ fs vs pre, At n₀ B t J e e' (left fs) v W fs vs pre ∧ atM n₀ B t J e e' v W = left fs := by
  obtain ⟨fs, vs, pre, hat⟩ := (leastOf_spec h).1
  have hg := hat.2.2.2.2.2.1
  refine ⟨fs, vs, pre, ?_, hg⟩
  rw [← hg]; exact hat
theorem AtX.lt {n₀ B : Nat} {t : T} {J : List (Nat × T) → World → Prop} {e e' : TypeId} {v v' : Value} {W W' : World} {k : Nat} (h : AtE n₀ B t J e e' k v' W') (hk : k < atM n₀ B t J e e' v W) : atM n₀ B t J e e' v' W' < atM n₀ B t J e e' v W := leastOf_lt h hk

theorem At.start {n₀ : Nat} {t : T} {J : List (Nat × T) → World → Prop} {e e' : TypeId} {a : Option Addr} {c : Nat} {W : World} (hn : n₀ ≤ W.heap.size) (hJ : AbidesChg W.heap.size e J) (hwf : (Lit.int .i64 t.head).wf = true) (hA : IsArgs n₀ W t.args a c) (h0 : J [] W) :
    AtE n₀ W.heap.size t J e e' (2 * t.size + 1) (.slice (some ⟨W.heap.size + 1, 0, none⟩) 1 1) ((W.alloc (.cells #[.int .i64 t.head, .slice a t.args.length c] e')).alloc (.cells #[.slice (some ⟨W.heap.size, 0, none⟩) 1 1] e)) := by
  have hB1 : Below W.heap.size W (W.alloc (.cells #[.int .i64 t.head, .slice a t.args.length c] e')) := (Below.refl _ _).alloc (Nat.le_refl _) _
  have hB2 : Below W.heap.size W ((W.alloc (.cells #[.int .i64 t.head, .slice a t.args.length c] e')).alloc (.cells #[.slice (some ⟨W.heap.size, 0, none⟩) 1 1] e)) := hB1.alloc (by simp) _
  refine ⟨[[t]], [.slice (some ⟨W.heap.size, 0, none⟩) 1 1], [], ?_, ⟨⟨_, _, rfl, Nat.le_refl _, by simp [maxLen], .inr ⟨W.heap.size, 0, rfl, .inr rfl, ?_⟩⟩, trivial⟩, hJ _ _ _ h0 ((Chg.alloc _ e W (Nat.le_refl _) _).trans (Chg.alloc _ e _ (by simp) _)), ?_, by simp, ?_, by simp, ⟨_, _, (Below.heap_alloc _ _ _ (by simp)).trans (World.alloc_heap_new W _)⟩⟩
  · have := World.ownsRow_lit (base := W.heap.size + 1) (e := e) (size := 1) (W.alloc (.cells #[.int .i64 t.head, .slice a t.args.length c] e')) #[.slice (some ⟨W.heap.size, 0, none⟩) 1 1] 1 (by simp) (by simp [maxLen]) (by simp)
    simpa using this
  · refine ⟨isT_iff.2 ⟨hwf, ?_, a, c, ?_, hA.below (hB2.mono hn)⟩, trivial⟩
    · simp [go_sem]
    · simp [go_sem]
  · simp [rest, T.subss]
  · simp [left, T.sizes]

/-- Within the list f, the innermost one: j of its elements have been visited. -/
def InX (n₀ B : Nat) (t : T) (J : List (Nat × T) → World → Prop) (e e' : TypeId) (f : List T) (fs : List (List T)) (vs : List Value) (a : Option Addr) (c : Nat) (stv : Value) (st i : Value) (W : World) : Prop :=
  ∃ (j : Nat) (pre : List (Nat × T)), j ≤ f.length ∧ i = .int .i64 j ∧ st = stv ∧ W.ownsRow (B + 1) e 1 stv (fs.length + 1) (.slice a f.length c :: vs).reverse ∧ Frs n₀ B W (f :: fs) (.slice a f.length c :: vs) ∧ J pre W ∧
    pre ++ (T.subss (fs.length + 1) (f.drop j) ++ rest fs) = T.subs 1 t ∧ fs.length ≤ pre.length ∧ B + 1 < W.heap.size ∧ FirstAt B e' W

theorem Frs.head_elem {n₀ B : Nat} {W : World} {f : List T} {fs : List (List T)} {vs : List Value} {a : Option Addr} {c : Nat} (h : Frs n₀ B W (f :: fs) (.slice a f.length c :: vs)) {j : Nat} (hj : j < f.length) :
    ∃ (b o : Nat) (s : T) (a' : Option Addr) (c' : Nat), a = some ⟨b, o, none⟩ ∧ (b < n₀ ∨ b = B) ∧ f[j]? = some s ∧ (Lit.int .i64 s.head).wf = true ∧ W.cell? ⟨b, o + j * 2, none⟩ = some (.int .i64 s.head) ∧
      W.cell? ⟨b, o + j * 2 + 1, none⟩ = some (.slice a' s.args.length c') ∧ IsArgs n₀ W s.args a' c' ∧ IsRow n₀ W f b o := by
  obtain ⟨⟨a₁, c₁, h1, h2, h3, h4⟩, _⟩ := h
  cases h1
  rcases h4 with rfl | ⟨b, o, rfl, h4, h5⟩
  · simp at hj
  · obtain ⟨p0, p1, a', c', p2, p3⟩ := isT_iff.1 (h5.at (List.getElem?_eq_getElem hj))
    exact ⟨b, o, _, a', c', rfl, h4, List.getElem?_eq_getElem hj, p0, p1, p2, p3, h5⟩

theorem ownsRow_block {w w' : World} {base : Nat} {e : TypeId} {size g n cap : Nat} {xs : List Value} (h : w.ownsRow base e size (.slice (some ⟨g, 0, none⟩) n cap) n xs) (hg : w'.heap[g]? = w.heap[g]?) : w'.ownsRow base e size (.slice (some ⟨g, 0, none⟩) n cap) n xs := by
  refine ⟨h.1, ?_⟩
  rcases h.2 with ⟨h', _⟩ | ⟨g', cap', cur, h', hb, hgg, r⟩
  · cases h'
  · cases h'
    exact .inr ⟨g, cap, cur, rfl, hb, hg.trans hgg, r⟩

theorem ownsRow_cap {w : World} {base : Nat} {e : TypeId} {size g n cap : Nat} {xs : List Value} (h : w.ownsRow base e size (.slice (some ⟨g, 0, none⟩) n cap) n xs) : n ≤ cap ∧ cap ≤ maxLen := by
  rcases h.2 with ⟨h', _⟩ | ⟨g', cap', cur, h', hb, hgg, h1, h2, _⟩
  · cases h'
  · cases h'
    exact ⟨h1, h2⟩

theorem left_push {f : List T} {j : Nat} {s : T} (hs : f[j]? = some s) (fs : List (List T)) : left (s.args :: f.drop (j + 1) :: fs) < left (f :: fs) := by
  have h1 := T.sizes_append (f.take j) (f.drop j)
  rw [List.take_append_drop, T.sizes_drop hs, T.size_eq] at h1
  simp only [left]; omega

theorem At.push {n₀ B : Nat} {t : T} {J : List (Nat × T) → World → Prop} {e e' : TypeId} {f : List T} {fs : List (List T)} {vs : List Value} {v newv v' : Value} {a₁ : Option Addr} {c₁ g cap j : Nat} {s : T} {pre : List (Nat × T)} {W3 w1 : World} {tmp : Obj}
    (hJ : AbidesChg B e J) (hn : n₀ ≤ B) (hO : W3.ownsRow (B + 1) e 1 (.slice (some ⟨g, 0, none⟩) (fs.length + 1) cap) (fs.length + 1) (v :: vs).reverse) (hF : Frs n₀ B W3 (f :: fs) (v :: vs)) (hA : IsArgs n₀ W3 s.args a₁ c₁) (hs : f[j]? = some s)
    (hP : pre ++ (T.subss (fs.length + 1) (f.drop j) ++ rest fs) = T.subs 1 t) (hj : J (pre ++ [(fs.length + 1, s)]) W3) (hnew : Fr n₀ B W3 (f.drop (j + 1)) newv) (hl : fs.length ≤ pre.length) (hsz : B + 1 < W3.heap.size) (hfirst : FirstAt B e' W3)
    (hown : w1.ownsRow (B + 1) e 1 v' (fs.length + 1 + 1) ((v :: vs).reverse.set fs.length newv ++ [.slice a₁ s.args.length c₁])) (hgrow : ((W3.setCell ⟨g, fs.length, none⟩ newv).alloc tmp).grownBy w1 (some g)) :
    AtE n₀ B t J e e' (left (s.args :: f.drop (j + 1) :: fs)) v' w1 := by
  have hvl : fs.length = vs.length := hF.2.length
  have hg := (hO.lt g rfl).1
  have hB : Below (B + 1) W3 w1 := by
    refine ((((Below.refl (B + 1) W3).setCell (p := ⟨g, fs.length, none⟩) hg newv).alloc ?_ tmp)).grown hgrow ?_ ?_
    · simp; omega
    · simp; omega
    · intro k e; cases e; exact hg
  have hBB := hB.block B (by omega)
  have hC : Chg B e W3 w1 := by
    refine ⟨hB.mono (by omega), fun b cs e₁ fz hb he => ?_⟩
    have hlt := (Array.getElem?_eq_some_iff.1 hb).1
    have hbg : b ≠ g := by
      intro h; subst h
      rcases hO.2 with ⟨h', _⟩ | ⟨g', cap', cur, h', _, hgg, _⟩
      · cases h'
      · cases h'; rw [hb] at hgg; cases hgg; exact he rfl
    refine (hgrow.block b (by simp; omega) (by simpa using hbg)).trans ((Below.heap_alloc _ _ _ (by simpa using hlt)).trans (Below.heap_setCell _ _ _ _ hbg))
  refine ⟨s.args :: f.drop (j + 1) :: fs, .slice a₁ s.args.length c₁ :: newv :: vs, pre ++ [(fs.length + 1, s)], ?_, ⟨Fr.of_args (hA.below (hB.mono (by omega))), hnew.keep (hB.mono (by omega)) hBB, hF.2.keep (hB.mono (by omega)) hBB⟩, hJ _ _ _ hj hC, ?_, by simp; omega, rfl, by have := hB.size; omega, hfirst.keep hBB⟩
  · rw [hvl, set_last] at hown
    rw [show (Value.slice a₁ s.args.length c₁ :: newv :: vs).reverse = (newv :: vs).reverse ++ [.slice a₁ s.args.length c₁] from by simp]
    rw [show (s.args :: f.drop (j + 1) :: fs).length = vs.length + 1 + 1 from by simp [hvl]]
    exact hown
  · rw [← hP, T.subss_drop _ hs, T.subs_eq]
    simp [rest]

theorem At.pop {n₀ B : Nat} {t : T} {J : List (Nat × T) → World → Prop} {e e' : TypeId} {f : List T} {fs : List (List T)} {vs : List Value} {v : Value} {g cap : Nat} {pre : List (Nat × T)} {W3 : World}
    (hO : W3.ownsRow (B + 1) e 1 (.slice (some ⟨g, 0, none⟩) (fs.length + 1) cap) (fs.length + 1) (v :: vs).reverse) (hF : Frs n₀ B W3 (f :: fs) (v :: vs))
    (hP : pre ++ (T.subss (fs.length + 1) (f.drop f.length) ++ rest fs) = T.subs 1 t) (hj : J pre W3) (hl : fs.length ≤ pre.length) (hsz : B + 1 < W3.heap.size) (hfirst : FirstAt B e' W3) :
    AtE n₀ B t J e e' (left fs) (.slice (some ⟨g, 0, none⟩) fs.length cap) W3 := by
  have hvl : fs.length = vs.length := hF.2.length
  refine ⟨fs, vs, pre, ?_, hF.2, hj, by simpa [T.subss] using hP, by omega, rfl, hsz, hfirst⟩
  rw [List.reverse_cons] at hO
  exact ownsRow_pop (by simp [hvl]) hO

/-- The post of the visit. -/
def subPost (t : T) (J Jx : List (Nat × T) → World → Prop) (e : Ending) (W' : World) : Prop :=
  (∃ v, e = .returned v) ∧ ((∃ xs, xs = T.subs 1 t ∧ J xs W') ∨ (∃ pre, pre <+: T.subs 1 t ∧ Jx pre W'))

end Go.Proofs.Ytfkaecjdncjggaa
