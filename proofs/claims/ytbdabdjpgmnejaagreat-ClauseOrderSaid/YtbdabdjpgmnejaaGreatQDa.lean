/- QDa: joined of Lm, Lc, Lp, Kc, Lat, Fw5, St0. -/
import Derived.Test.YtbdabdjpgmnejaaGreatQBq
import Derived.Test.YtbdabdjpgmnejaaGreatQBj
import Derived.Test.YtbdabdjpgmnejaaGreatQBn
import Derived.Test.YtbdabdjpgmnejaaGreatSam0
import Derived.Test.YtbdabdjpgmnejaaGreatQBf
import Derived.Test.YtbdabdjpgmnejaaGreatQBc
/- Literals in memory. -/
namespace Go.Proofs.YtbdabdjpgmnejaaGreat
set_option linter.unusedVariables false
set_option linter.unusedSimpArgs false
open Go.RowKit

/-- A literal as a value: which terms, and where their arguments lie. -/
structure LV where
  n : Bool
  l : T
  r : T
  pa : Option Addr
  ca : Nat
  pb : Option Addr
  cb : Nat
abbrev LV.v (x : LV) : Value := .agg #[.bool x.n, .int .i64 x.l.head, .slice x.pa x.l.args.length x.ca, .int .i64 x.r.head, .slice x.pb x.r.args.length x.cb]
abbrev LV.obj (x : LV) : Obj := .cells #[.bool x.n, .int .i64 x.l.head, .slice x.pa x.l.args.length x.ca, .int .i64 x.r.head, .slice x.pb x.r.args.length x.cb] 36
/-- A variable of type Lit: its five cells. -/
def Lc (b : Nat) (x : LV) (X : World) : Prop :=
  X.cell? ⟨b, 0, none⟩ = some (.bool x.n) ∧ X.cell? ⟨b, 1, none⟩ = some (.int .i64 x.l.head) ∧ X.cell? ⟨b, 2, none⟩ = some (.slice x.pa x.l.args.length x.ca) ∧ X.cell? ⟨b, 3, none⟩ = some (.int .i64 x.r.head) ∧ X.cell? ⟨b, 4, none⟩ = some (.slice x.pb x.r.args.length x.cb)
theorem later_lc (W : World) (x : LV) : Later (Lc W.heap.size x) (W.alloc x.obj) := fun X hX =>
  ⟨(hX.cell (p := ⟨W.heap.size, 0, none⟩) (by simp)).trans (by simp [go_sem]), (hX.cell (p := ⟨W.heap.size, 1, none⟩) (by simp)).trans (by simp [go_sem]), (hX.cell (p := ⟨W.heap.size, 2, none⟩) (by simp)).trans (by simp [go_sem]),
    (hX.cell (p := ⟨W.heap.size, 3, none⟩) (by simp)).trans (by simp [go_sem]), (hX.cell (p := ⟨W.heap.size, 4, none⟩) (by simp)).trans (by simp [go_sem])⟩
/-- A new variable of type Lit, laid in a later world. -/
theorem Later.pushL {F : World → Prop} {W W' : World} (k : Later F W) (hb : Below W.heap.size W W') (x : LV) : Later (fun X => Lc W'.heap.size x X ∧ F X) (W'.alloc x.obj) :=
  (k.mv (hb.alloc hb.size _)).and (later_lc W' x)
/-- The sides of a literal in memory. -/
structure IsLv (n₀ : Nat) (w : World) (x : LV) : Prop where
  lw : (Lit.int .i64 x.l.head).wf = true
  rw : (Lit.int .i64 x.r.head).wf = true
  la : IsArgs n₀ w x.l.args x.pa x.ca
  ra : IsArgs n₀ w x.r.args x.pb x.cb
theorem IsLv.below {n₀ : Nat} {w w' : World} {x : LV} (h : IsLv n₀ w x) (hb : Below n₀ w w') : IsLv n₀ w' x := ⟨h.lw, h.rw, h.la.below hb, h.ra.below hb⟩
theorem IsLv.mono {n₀ n₁ : Nat} {w : World} {x : LV} (h : IsLv n₀ w x) (hn : n₀ ≤ n₁) : IsLv n₁ w x := ⟨h.lw, h.rw, h.la.mono hn, h.ra.mono hn⟩
theorem later_lv {W : World} {x : LV} (h : IsLv W.heap.size W x) : Later (fun X => IsLv X.heap.size X x) W := fun X hX => (h.below hX).mono hX.size
/-- Are both sides of a size that can be walked? -/
def LV.sz (x : LV) : Prop := x.l.size ≤ 1000000000000 ∧ x.r.size ≤ 1000000000000
/-- The literal with its sides changed. -/
def LV.turn (x : LV) : LV := ⟨x.n, x.r, x.l, x.pb, x.cb, x.pa, x.ca⟩
theorem IsLv.turn {n₀ : Nat} {w : World} {x : LV} (h : IsLv n₀ w x) : IsLv n₀ w x.turn := ⟨h.rw, h.lw, h.ra, h.la⟩

end Go.Proofs.YtbdabdjpgmnejaaGreat

/- Clauses in memory: rows of literals. -/
namespace Go.Proofs.YtbdabdjpgmnejaaGreat
set_option linter.unusedVariables false
set_option linter.unusedSimpArgs false
open Go.RowKit

abbrev LV.cells (x : LV) : List Value := [.bool x.n, .int .i64 x.l.head, .slice x.pa x.l.args.length x.ca, .int .i64 x.r.head, .slice x.pb x.r.args.length x.cb]
/-- The literal, without its addresses. -/
def LV.t3 (x : LV) : Lt3 := ⟨x.n, x.l, x.r⟩
/-- A literal's five cells at an address. -/
def At5 (W : World) (b o : Nat) (x : LV) : Prop :=
  W.cell? ⟨b, o, none⟩ = some (.bool x.n) ∧ W.cell? ⟨b, o + 1, none⟩ = some (.int .i64 x.l.head) ∧ W.cell? ⟨b, o + 2, none⟩ = some (.slice x.pa x.l.args.length x.ca) ∧ W.cell? ⟨b, o + 3, none⟩ = some (.int .i64 x.r.head) ∧ W.cell? ⟨b, o + 4, none⟩ = some (.slice x.pb x.r.args.length x.cb)
theorem At5.keep {W X : World} {b o : Nat} {x : LV} (h : At5 W b o x) (hc : ∀ i, X.cell? ⟨b, i, none⟩ = W.cell? ⟨b, i, none⟩) : At5 X b o x :=
  ⟨(hc _).trans h.1, (hc _).trans h.2.1, (hc _).trans h.2.2.1, (hc _).trans h.2.2.2.1, (hc _).trans h.2.2.2.2⟩
/-- A row of literals in memory. -/
def IsCl (n₀ : Nat) (W : World) (P : List LV) (a : Option Addr) (c : Nat) : Prop :=
  P.length ≤ c ∧ c ≤ maxLen ∧ (P = [] ∨ ∃ b o, a = some ⟨b, o, none⟩ ∧ b < n₀ ∧ ∀ (j : Nat) (x : LV), P[j]? = some x → At5 W b (o + j * 5) x ∧ IsLv n₀ W x)
theorem IsCl.below {n₀ : Nat} {w w' : World} {P : List LV} {a : Option Addr} {c : Nat} (h : IsCl n₀ w P a c) (hb : Below n₀ w w') : IsCl n₀ w' P a c := by
  obtain ⟨h1, h2, h3⟩ := h
  refine ⟨h1, h2, ?_⟩
  rcases h3 with h3 | ⟨b, o, h4, h5, h6⟩
  · exact .inl h3
  · exact .inr ⟨b, o, h4, h5, fun j x hx => ⟨(h6 j x hx).1.keep (fun i => hb.cell (p := ⟨b, i, none⟩) h5), (h6 j x hx).2.below hb⟩⟩
theorem IsCl.mono {n₀ n₁ : Nat} {w : World} {P : List LV} {a : Option Addr} {c : Nat} (h : IsCl n₀ w P a c) (hn : n₀ ≤ n₁) : IsCl n₁ w P a c := by
  obtain ⟨h1, h2, h3⟩ := h
  refine ⟨h1, h2, ?_⟩
  rcases h3 with h3 | ⟨b, o, h4, h5, h6⟩
  · exact .inl h3
  · exact .inr ⟨b, o, h4, by omega, fun j x hx => ⟨(h6 j x hx).1, (h6 j x hx).2.mono hn⟩⟩
theorem later_cl {W : World} {P : List LV} {a : Option Addr} {c : Nat} (h : IsCl W.heap.size W P a c) : Later (fun X => IsCl X.heap.size X P a c) W := fun X hX => (h.below hX).mono hX.size
theorem IsCl.elem {n₀ : Nat} {w : World} {P : List LV} {a : Option Addr} {c : Nat} (h : IsCl n₀ w P a c) {i : Nat} (hi : i < P.length) :
    ∃ (b o : Nat) (x : LV), a = some ⟨b, o, none⟩ ∧ b < n₀ ∧ P[i]? = some x ∧ At5 w b (o + i * 5) x ∧ IsLv n₀ w x := by
  obtain ⟨_, _, h3⟩ := h
  rcases h3 with rfl | ⟨b, o, rfl, h4, h5⟩
  · simp at hi
  · exact ⟨b, o, P[i], rfl, h4, List.getElem?_eq_getElem hi, h5 i _ (List.getElem?_eq_getElem hi)⟩
theorem IsCl.nil (n₀ : Nat) (w : World) (a : Option Addr) {c : Nat} (hc : c ≤ maxLen) : IsCl n₀ w [] a c := ⟨by simp, hc, .inl rfl⟩

/-! ### Rows of one's own -/
theorem infoLit : (Tryz.prog.info? 36).map (fun i => (i.zero, i.size, i.bytes)) = some (some (.agg #[.bool false, .int .i64 0, .slice none 0 0, .int .i64 0, .slice none 0 0]), 5, 72) := by kernel_rfl
/-- The sides of a literal, in blocks of a kind. -/
structure IsLvp (ok : Nat → Prop) (w : World) (x : LV) : Prop where
  lw : (Lit.int .i64 x.l.head).wf = true
  rw : (Lit.int .i64 x.r.head).wf = true
  la : IsArgsp ok w x.l.args x.pa x.ca
  ra : IsArgsp ok w x.r.args x.pb x.cb
theorem IsLvp.keep {ok ok' : Nat → Prop} {w w' : World} {x : LV} (h : IsLvp ok w x) (hb : ∀ b, ok b → w'.heap[b]? = w.heap[b]?) (hm : ∀ b, ok b → ok' b) : IsLvp ok' w' x := ⟨h.lw, h.rw, h.la.keep hb hm, h.ra.keep hb hm⟩
theorem isLvp_lt {n : Nat} {w : World} {x : LV} : IsLvp (· < n) w x ↔ IsLv n w x := ⟨fun h => ⟨h.lw, h.rw, isArgsp_lt.1 h.la, isArgsp_lt.1 h.ra⟩, fun h => ⟨h.lw, h.rw, isArgsp_lt.2 h.la, isArgsp_lt.2 h.ra⟩⟩
def lcells (P : List LV) : List Value := (P.map LV.cells).flatten
theorem lcells_length (P : List LV) : (lcells P).length = P.length * 5 := by
  induction P with
  | nil => rfl
  | cons x P ih => simp only [lcells, List.map_cons, List.flatten_cons, List.length_append] at *; simp [ih]; omega
theorem lcells_append (P Q : List LV) : lcells (P ++ Q) = lcells P ++ lcells Q := by simp [lcells]
theorem lcells_get {P : List LV} {j : Nat} {x : LV} (h : P[j]? = some x) : (lcells P)[j * 5]? = some (.bool x.n) ∧ (lcells P)[j * 5 + 1]? = some (.int .i64 x.l.head) ∧ (lcells P)[j * 5 + 2]? = some (.slice x.pa x.l.args.length x.ca) ∧ (lcells P)[j * 5 + 3]? = some (.int .i64 x.r.head) ∧ (lcells P)[j * 5 + 4]? = some (.slice x.pb x.r.args.length x.cb) := by
  induction P generalizing j with
  | nil => simp at h
  | cons y P ih =>
    cases j with
    | zero =>
      simp at h
      subst h
      exact ⟨rfl, rfl, rfl, rfl, rfl⟩
    | succ j =>
      have := ih (j := j) (by simpa using h)
      have e : ∀ i, (lcells (y :: P))[(j + 1) * 5 + i]? = (lcells P)[j * 5 + i]? := fun i => by
        simp only [lcells, List.map_cons, List.flatten_cons]
        rw [List.getElem?_append_right (by simp; omega)]
        congr 1
        simp
        omega
      exact ⟨(e 0).trans this.1, (e 1).trans this.2.1, (e 2).trans this.2.2.1, (e 3).trans this.2.2.2.1, (e 4).trans this.2.2.2.2⟩
/-- A row of literals of one's own. -/
def OL (ok : Nat → Prop) (n₁ : Nat) (v : Value) (P : List LV) (W : World) : Prop := W.ownsRow n₁ 36 5 v P.length (lcells P) ∧ ∀ x ∈ P, IsLvp ok W x
theorem OL.nil (ok : Nat → Prop) (n₁ : Nat) (W : World) : OL ok n₁ (.slice none 0 0) [] W := ⟨⟨by simp [lcells], .inl ⟨rfl, rfl⟩⟩, by simp⟩
theorem OL.kept {ok ok' : Nat → Prop} {n₁ : Nat} {v : Value} {P : List LV} {W W' : World} (h : OL ok n₁ v P W) (hk : ∀ g, v.ownBlock = some g → W'.heap[g]? = W.heap[g]?) (hb : ∀ b, ok b → W'.heap[b]? = W.heap[b]?) (hm : ∀ b, ok b → ok' b) : OL ok' n₁ v P W' :=
  ⟨Mm.ownsRow_kept h.1 hk, fun x hx => (h.2 x hx).keep hb hm⟩
theorem OL.block {ok : Nat → Prop} {n₁ : Nat} {v : Value} {P : List LV} {W : World} (h : OL ok n₁ v P W) {g : Nat} (hg : v.ownBlock = some g) : n₁ ≤ g ∧ g < W.heap.size := by
  obtain ⟨a, b, _⟩ := Mm.rowBlock h.1 hg
  exact ⟨a, b⟩
theorem OL.later {ok : Nat → Prop} {n₁ : Nat} {v : Value} {P : List LV} {W W' : World} (h : OL ok n₁ v P W) (ho : ∀ b, ok b → b < W.heap.size) (hb : Below W.heap.size W W') : OL ok n₁ v P W' :=
  h.kept (fun g hg => hb.block g (h.block hg).2) (fun b hk => hb.block b (ho b hk)) (fun _ x => x)
theorem OL.args {ok : Nat → Prop} {n₁ : Nat} {v : Value} {P : List LV} {W : World} (h : OL ok n₁ v P W) (ho : ∀ b, ok b → b < W.heap.size) : ∃ a c, v = .slice a P.length c ∧ IsCl W.heap.size W P a c := by
  have hbl := fun g (hg : v.ownBlock = some g) => h.block hg
  have hcells := fun g hg => h.1.cells (g := g) hg
  have hel : ∀ x ∈ P, IsLv W.heap.size W x := fun x hx => isLvp_lt.1 ((h.2 x hx).keep (fun _ _ => rfl) ho)
  rcases h.1.2 with ⟨rfl, h0⟩ | ⟨g, cap, cur, rfl, hb, hh, hn, hc, hs, _⟩
  · have : P = [] := List.eq_nil_of_length_eq_zero h0
    subst this
    exact ⟨none, 0, rfl, IsCl.nil _ _ _ (by simp [maxLen])⟩
  · refine ⟨_, cap, rfl, hn, hc, .inr ⟨g, 0, rfl, (hbl g rfl).2, fun j x hx => ⟨?_, hel x (List.mem_of_getElem? hx)⟩⟩⟩
    have hc5 : ∀ i u, (lcells P)[i]? = some u → W.cell? ⟨g, i, none⟩ = some u := fun i u hu => by
      have := hcells g rfl i u hu
      rw [addr_add] at this
      simpa using this
    obtain ⟨g0, g1, g2, g3, g4⟩ := lcells_get hx
    simp only [Nat.zero_add]
    exact ⟨hc5 _ _ g0, hc5 _ _ g1, hc5 _ _ g2, hc5 _ _ g3, hc5 _ _ g4⟩

/-- What is appended: literals whose cells lie at an address. -/
def SrcL (w : World) (Q : List LV) (a : Option Addr) (c : Nat) : Prop :=
  (a = none → c = 0 ∧ Q = []) ∧ ∀ ad, a = some ad → ∀ j u, (lcells Q)[j]? = some u → w.cell? (ad.add j) = some u
theorem SrcL.of_cl {n₁ : Nat} {w : World} {Q : List LV} {a : Option Addr} {c : Nat} (hA : IsCl n₁ w Q a c) (hnil : a = none → c = 0) : SrcL w Q a c := by
  refine ⟨fun h => ⟨hnil h, ?_⟩, fun ad e j u hj => ?_⟩
  · rcases hA.2.2 with h' | ⟨b, o, h', _⟩
    · exact h'
    · rw [h] at h'; cases h'
  · rcases hA.2.2 with rfl | ⟨b, o, rfl, hb, hr⟩
    · simp [lcells] at hj
    · cases e
      rw [addr_add]
      have hjl : j < Q.length * 5 := by rw [← lcells_length]; exact (List.getElem?_eq_some_iff.1 hj).1
      have hx : Q[j / 5]? = some Q[j / 5] := List.getElem?_eq_getElem (by omega)
      obtain ⟨⟨c0, c1, c2, c3, c4⟩, _⟩ := hr _ _ hx
      obtain ⟨g0, g1, g2, g3, g4⟩ := lcells_get hx
      have hm : j % 5 = 0 ∨ j % 5 = 1 ∨ j % 5 = 2 ∨ j % 5 = 3 ∨ j % 5 = 4 := by omega
      rcases hm with e | e | e | e | e
      · have hj5 : j = j / 5 * 5 := by omega
        have : (lcells Q)[j]? = (lcells Q)[j / 5 * 5]? := by rw [← hj5]
        rw [this, g0] at hj; cases hj
        have : o + j = o + j / 5 * 5 := by omega
        rw [this]; exact c0
      · have hj5 : j = j / 5 * 5 + 1 := by omega
        have : (lcells Q)[j]? = (lcells Q)[j / 5 * 5 + 1]? := by rw [← hj5]
        rw [this, g1] at hj; cases hj
        have : o + j = o + j / 5 * 5 + 1 := by omega
        rw [this]; exact c1
      · have hj5 : j = j / 5 * 5 + 2 := by omega
        have : (lcells Q)[j]? = (lcells Q)[j / 5 * 5 + 2]? := by rw [← hj5]
        rw [this, g2] at hj; cases hj
        have : o + j = o + j / 5 * 5 + 2 := by omega
        rw [this]; exact c2
      · have hj5 : j = j / 5 * 5 + 3 := by omega
        have : (lcells Q)[j]? = (lcells Q)[j / 5 * 5 + 3]? := by rw [← hj5]
        rw [this, g3] at hj; cases hj
        have : o + j = o + j / 5 * 5 + 3 := by omega
        rw [this]; exact c3
      · have hj5 : j = j / 5 * 5 + 4 := by omega
        have : (lcells Q)[j]? = (lcells Q)[j / 5 * 5 + 4]? := by rw [← hj5]
        rw [this, g4] at hj; cases hj
        have : o + j = o + j / 5 * 5 + 4 := by omega
        rw [this]; exact c4
theorem SrcL.of_one {w : World} {x : LV} {b o : Nat} (h : At5 w b o x) : SrcL w [x] (some ⟨b, o, none⟩) 1 := by
  obtain ⟨c0, c1, c2, c3, c4⟩ := h
  refine ⟨(fun h => by cases h), fun ad e j u hj => ?_⟩
  cases e
  rw [addr_add]
  match j, hj with
  | 0, hj => simp [lcells] at hj; subst hj; exact c0
  | 1, hj => simp [lcells] at hj; subst hj; exact c1
  | 2, hj => simp [lcells] at hj; subst hj; exact c2
  | 3, hj => simp [lcells] at hj; subst hj; exact c3
  | 4, hj => simp [lcells] at hj; subst hj; exact c4
  | j + 5, hj => simp [lcells] at hj
theorem lcells_one (Q : List LV) : ∀ u ∈ lcells Q, u.oneCell' = true := by
  intro u hu
  simp only [lcells, List.mem_flatten, List.mem_map] at hu
  obtain ⟨l, ⟨x, _, rfl⟩, hu⟩ := hu
  simp at hu
  rcases hu with rfl | rfl | rfl | rfl | rfl <;> rfl

/-- append(v, ls...), where v is a row of one's own. -/
theorem wpList_append_ls {w : World} {ops : Array Oper} {rest : List Oper} {o : Oper} {a : Act} {Q : Exit → Act → World → Prop} (hgd : o.guard = none) (s x : Operand)
    (ho : o.op = .call { callee := .builtin .append, args := #[s, x], argTypes := #[23, 23] }) (ok : Nat → Prop) (n₁ : Nat) (v : Value) (P : List LV) (hs : a.eval s = v) (hO : OL ok n₁ v P w) (hn : n₁ ≤ w.heap.size)
    (ls : List LV) (a' : Option Addr) (c' : Nat) (hx : a.eval x = .slice a' ls.length c') (hS : SrcL w ls a' c') (hl : P.length + ls.length ≤ 10000000)
    (h : ∀ v' w', w'.ownsRow n₁ 36 5 v' (P ++ ls).length (lcells (P ++ ls)) → w.grownBy w' v.ownBlock → (v'.ownBlock = v.ownBlock ∨ v'.ownBlock = some w.heap.size) → wpList Tryz.prog ops Q rest (a.put o.dst v') w') : wpList Tryz.prog ops Q (o :: rest) a w := by
  obtain ⟨i0, hi, hz0, hz1, hz2⟩ := info_parts infoLit
  obtain ⟨hown, _⟩ := hO
  obtain ⟨hnone, hcl⟩ := hS
  cases a' with
  | none =>
    obtain ⟨rfl, rfl⟩ := hnone rfl
    refine wpList_append_own_none hgd s x 23 ho n₁ 36 i0 5 Tryz.underlying23 hi v P.length (lcells P) hs hown hx ?_
    exact h v w (by simpa using hown) ⟨rfl, rfl, rfl, Nat.le_refl _, fun _ _ _ => rfl⟩ (.inl rfl)
  | some ad =>
    have hnl : (lcells ls).length = ls.length * 5 := lcells_length ls
    obtain ⟨v', w', hr, h2, h3, _, h5⟩ := run_append_own_at (P := Tryz.prog) w n₁ 23 o.type 36 i0 (.agg #[.bool false, .int .i64 0, .slice none 0 0, .int .i64 0, .slice none 0 0]) 5 72 Tryz.underlying23 hi hz0 hz1 hz2 rfl (by decide) v P.length (lcells P) hown ad ls.length c' (lcells ls) hnl (hcl ad rfl) (lcells_one ls) (by unfold maxLen; omega) (by omega) hn
    refine wpList_plain hgd fun K hK => ?_
    unfold Oper.wp execOp
    simp only [ho, resolve, invoke, builtin, Sem.run_bind, Sem.run_pure, Result.andThen_ok, List.map_toArray, List.map_cons, List.map_nil, hs, hx, hr]
    exact hK _ _ (h v' w' (by rw [lcells_append]; simpa using h2) h3 h5)
/-- .. whose elements lie in blocks that the row doesn't touch. -/
theorem OL.append {ok : Nat → Prop} {n₁ : Nat} {v v' : Value} {P ls : List LV} {w w' : World} (h : OL ok n₁ v P w) (hr : w'.ownsRow n₁ 36 5 v' (P ++ ls).length (lcells (P ++ ls))) (hg : w.grownBy w' v.ownBlock) (ho : ∀ b, ok b → b < w.heap.size ∧ v.ownBlock ≠ some b) (hls : ∀ x ∈ ls, IsLvp ok w x) : OL ok n₁ v' (P ++ ls) w' := by
  have hb : ∀ b, ok b → w'.heap[b]? = w.heap[b]? := fun b hk => hg.block b (ho b hk).1 (fun e => (ho b hk).2 e.symm)
  refine ⟨hr, fun x hx => ?_⟩
  rcases List.mem_append.1 hx with hx | hx
  · exact (h.2 x hx).keep hb (fun _ x => x)
  · exact (hls x hx).keep hb (fun _ x => x)

end Go.Proofs.YtbdabdjpgmnejaaGreat

/- Literals: what the document says of them; plain facts. -/
namespace Go.Proofs.YtbdabdjpgmnejaaGreat
set_option linter.unusedVariables false
set_option linter.unusedSimpArgs false
open Go.RowKit

/-- Do the sides of a literal go together? -/
def sortE (g : Sg) (l r : T) : Int := if predS g l.head then (if r.head = 0 then 0 else 10) else if predS g r.head then 10 else 0
/-- The error of a literal. -/
def errL (g : Sg) (l r : T) : Int := if errT g l ≠ 0 then errT g l else if errT g r ≠ 0 then errT g r else sortE g l r
theorem errL_ok {g : Sg} {l r : T} (h : errL g l r = 0) : errT g l = 0 ∧ errT g r = 0 ∧ sortE g l r = 0 := by
  unfold errL at h
  by_cases q : errT g l = 0
  · rw [if_neg (fun e => e q)] at h
    by_cases q' : errT g r = 0
    · rw [if_neg (fun e => e q')] at h
      exact ⟨q, q', h⟩
    · rw [if_pos q'] at h; exact absurd h q'
  · rw [if_pos q] at h; exact absurd h q
theorem errL_of {g : Sg} {l r : T} (h1 : errT g l = 0) (h2 : errT g r = 0) (h3 : sortE g l r = 0) : errL g l r = 0 := by
  unfold errL
  rw [if_neg (fun e => e h1), if_neg (fun e => e h2), h3]
theorem errL_left {g : Sg} {l r : T} (h : errT g l ≠ 0) : errL g l r = errT g l := by unfold errL; rw [if_pos h]
theorem errL_right {g : Sg} {l r : T} (h1 : errT g l = 0) (h2 : errT g r ≠ 0) : errL g l r = errT g r := by
  unfold errL; rw [if_neg (fun e => e h1), if_pos h2]
theorem errL_sort {g : Sg} {l r : T} (h1 : errT g l = 0) (h2 : errT g r = 0) : errL g l r = sortE g l r := by
  unfold errL; rw [if_neg (fun e => e h1), if_neg (fun e => e h2)]

/-- The same sides, one way round or the other. -/
def sidB (l r l' r' : T) : Bool := (sameB l l' && sameB r r') || (sameB l r' && sameB r l')
theorem sidB_iff {l r l' r' : T} : sidB l r l' r' = true ↔ sidesT l r l' r' := by
  simp only [sidB, sidesT, Bool.or_eq_true, Bool.and_eq_true, sameB_iff]
def samL (n : Bool) (l r : T) (n' : Bool) (l' r' : T) : Bool := n == n' && sidB l r l' r'
def oppL (n : Bool) (l r : T) (n' : Bool) (l' r' : T) : Bool := n != n' && sidB l r l' r'
theorem errF_row {g : Sg} {n : Bool} {l r : T} (h1 : errT g l = 0) (h2 : errT g r = 0) : errF g (rowL n l r) = 0 := by
  cases n
  · exact errF_pair h1 h2
  · show errF g ([l, l] ++ [r, r]) = 0
    rw [errF_app, errF_pair h1 h1, if_pos rfl, errF_pair h2 h2]

/-! ### An order -/
theorem lit_same {g : Sg} {n n' : Bool} {l r l' r' : T} : rowsT g (rowL n l r) (rowL n' l' r') = 0 ↔ samL n l r n' l' r' = true := by
  rw [rowsT_zero_iff, rowL_eq, samL, Bool.and_eq_true, beq_iff_eq, sidB_iff]
theorem lit_neg {g : Sg} {n n' : Bool} {l r l' r' : T} (h : oppL n l r n' l' r' = true) (hn : n = true) : rowsT g (rowL n l r) (rowL n' l' r') = 1 := by
  subst hn
  rw [oppL, Bool.and_eq_true, sidB_iff] at h
  have : n' = false := by
    have h1 := h.1
    cases n' with
    | false => rfl
    | true => simp at h1
  subst this
  exact rowsT_more_iff.2 (rowL_neg h.2)

/-! ### Oriented -/
def oriA (g : Sg) (l r : T) : T := if stand g l r = -1 then r else l
def oriB (g : Sg) (l r : T) : T := if stand g l r = -1 then l else r
theorem stand_ori (g : Sg) (l r : T) : stand g (oriA g l r) (oriB g l r) ≠ -1 := by
  unfold oriA oriB
  by_cases h : stand g l r = -1
  · rw [if_pos h, if_pos h, stand_swap, h]; decide
  · rw [if_neg h, if_neg h]; exact h
theorem sid_ori (g : Sg) (l r : T) : sidB (oriA g l r) (oriB g l r) l r = true := by
  rw [sidB_iff]
  unfold oriA oriB
  by_cases h : stand g l r = -1
  · rw [if_pos h, if_pos h]; exact .inr ⟨rfl, rfl⟩
  · rw [if_neg h, if_neg h]; exact .inl ⟨rfl, rfl⟩
theorem ori_again (g : Sg) (l r : T) : oriA g (oriA g l r) (oriB g l r) = oriA g l r ∧ oriB g (oriA g l r) (oriB g l r) = oriB g l r := by
  have := stand_ori g l r
  exact ⟨by rw [oriA, if_neg this], by rw [oriB, if_neg this]⟩
/-- $true is not greater than an atom. -/
theorem atom_true {g : Sg} {l r : T} (h : errL g l r = 0) (hp : predS g l.head = true) : stand g l r ≠ -1 := by
  obtain ⟨h1, h2, h3⟩ := errL_ok h
  unfold sortE at h3
  rw [if_pos hp] at h3
  have hr0 : r.head = 0 := by
    by_cases e : r.head = 0
    · exact e
    · rw [if_neg e] at h3; cases h3
  have hrt := errT_right h1
  intro e
  have hgt := stand_less.1 e
  obtain ⟨_, hd⟩ := gtK_iff.1 hgt
  have hg0 : g[0]? = some sy0 := by
    unfold rightG at hrt
    simp only [Bool.and_eq_true, decide_eq_true_eq] at hrt
    exact hrt.1.1.2
  have hra : r.args = [] := by
    have hf := (errT_okT h2).2.1
    rw [fitsT_eq] at hf
    rw [hr0] at hf
    unfold armOk at hf
    rw [show (0 : Int).toNat = 0 from rfl, hg0] at hf
    simp [sy0] at hf
    exact hf.1
  have hw : wtT g r = 1 := by
    rw [wtT_eq, hr0, hra]
    unfold wo
    rw [if_neg (by decide), show (0 : Int).toNat = 0 from rfl, hg0]
    rfl
  have hwl := wt_pos hrt (errT_okT h1)
  have hl0 : 0 ≤ l.head := by
    unfold predS at hp
    simp only [Bool.and_eq_true, decide_eq_true_eq] at hp
    exact hp.1
  rcases hd with hd | ⟨_, _, _, hd | ⟨_, hd⟩⟩
  · omega
  · omega
  · rw [hra] at hd; simp [gtL] at hd
theorem errL_ori {g : Sg} {l r : T} (h : errL g l r = 0) : errL g (oriA g l r) (oriB g l r) = 0 := by
  unfold oriA oriB
  by_cases e : stand g l r = -1
  · rw [if_pos e, if_pos e]
    obtain ⟨h1, h2, h3⟩ := errL_ok h
    refine errL_of h2 h1 ?_
    by_cases hp : predS g l.head = true
    · exact absurd e (atom_true h hp)
    · unfold sortE at h3 ⊢
      rw [if_neg hp] at h3
      by_cases hq : predS g r.head = true
      · rw [if_pos hq] at h3; cases h3
      · rw [if_neg hq, if_neg hp]
  · rw [if_neg e, if_neg e]; exact h
theorem oriA_gt (g : Sg) (l r : T) : oriA g l r = if gtK g r l then r else l := by
  unfold oriA
  by_cases h : gtK g r l = true
  · rw [if_pos (stand_less.2 h), if_pos h]
  · rw [if_neg (fun e => h (stand_less.1 e)), if_neg h]
theorem oriB_gt (g : Sg) (l r : T) : oriB g l r = if gtK g r l then l else r := by
  unfold oriB
  by_cases h : gtK g r l = true
  · rw [if_pos (stand_less.2 h), if_pos h]
  · rw [if_neg (fun e => h (stand_less.1 e)), if_neg h]

end Go.Proofs.YtbdabdjpgmnejaaGreat

/- Clauses: what the document says of them; plain facts. -/
namespace Go.Proofs.YtbdabdjpgmnejaaGreat
set_option linter.unusedVariables false
set_option linter.unusedSimpArgs false
open Go.RowKit

/-- All sides. -/
def sidesC (c : List Lt3) : List T := (c.map fun x => [x.l, x.r]).flatten
/-- The error of the first literal that has one. -/
def errs (g : Sg) : List Lt3 → Int
  | [] => 0
  | x :: c => if errL g x.l x.r ≠ 0 then errL g x.l x.r else errs g c
def errC (g : Sg) (c : List Lt3) : Int := if rightG g then (if 32 < c.length then 2 else errs g c) else 1
theorem errs_ok {g : Sg} : ∀ {c : List Lt3}, errs g c = 0 ↔ ∀ x ∈ c, errL g x.l x.r = 0
  | [] => by simp [errs]
  | x :: c => by
    rw [errs]
    by_cases h : errL g x.l x.r = 0
    · rw [if_neg (fun e => e h), errs_ok]; simp [h]
    · rw [if_pos h]; simp [h]
theorem errC_ok {g : Sg} {c : List Lt3} (h : errC g c = 0) : rightG g = true ∧ c.length ≤ 32 ∧ ∀ x ∈ c, errL g x.l x.r = 0 := by
  unfold errC at h
  by_cases h1 : rightG g = true
  · rw [if_pos h1] at h
    by_cases h2 : 32 < c.length
    · rw [if_pos h2] at h; cases h
    · rw [if_neg h2] at h
      exact ⟨h1, by omega, errs_ok.1 h⟩
  · rw [if_neg h1] at h; cases h
theorem errC_of {g : Sg} {c : List Lt3} (h1 : rightG g = true) (h2 : c.length ≤ 32) (h3 : ∀ x ∈ c, errL g x.l x.r = 0) : errC g c = 0 := by
  unfold errC
  rw [if_pos h1, if_neg (by omega)]
  exact errs_ok.2 h3

/-! ### The same literals -/
def sameLB (a b : Lt3) : Bool := samL a.neg a.l a.r b.neg b.l b.r
theorem sameLB_iff {a b : Lt3} : sameLB a b = true ↔ sameL a b := by
  unfold sameLB samL sameL
  rw [Bool.and_eq_true, beq_iff_eq, sidB_iff]
theorem sameLB_rep {a b : Lt3} : sameLB a b = (repL a == repL b) := by
  rw [Bool.eq_iff_iff, sameLB_iff, beq_iff_eq, repL_eq]
/-- The literals of one without what the other one has, as often. -/
def witL : List Lt3 → List Lt3 → List Lt3
  | [], _ => []
  | x :: a, b => if b.any (sameLB x) then witL a (b.eraseP (sameLB x)) else x :: witL a b
theorem witL_rem : ∀ (a b : List Lt3), (witL a b).map repL = remM (repC a) (repC b)
  | [], b => rfl
  | x :: a, b => by
    rw [witL]
    show _ = remM (repL x :: repC a) (repC b)
    rw [remM]
    have hany : b.any (sameLB x) = true ↔ repL x ∈ repC b := by
      unfold repC
      rw [List.any_eq_true, List.mem_map]
      constructor
      · rintro ⟨y, hy, h⟩; exact ⟨y, hy, (repL_eq.2 (sameLB_iff.1 h)).symm⟩
      · rintro ⟨y, hy, h⟩; exact ⟨y, hy, sameLB_iff.2 (repL_eq.1 h.symm)⟩
    by_cases h : b.any (sameLB x) = true
    · rw [if_pos h, if_pos (hany.1 h), witL_rem]
      congr 1
      unfold repC
      rw [List.erase_eq_eraseP, List.eraseP_map]
      congr 2
      funext y
      exact sameLB_rep
    · rw [if_neg h, if_neg (fun e => h (hany.2 e)), List.map_cons, witL_rem]
theorem witL_sub : ∀ (a b : List Lt3), ∀ x ∈ witL a b, x ∈ a
  | [], _, _, h => h
  | y :: a, b, x, h => by
    rw [witL] at h
    split at h
    · exact List.mem_cons_of_mem _ (witL_sub a _ x h)
    · rcases List.mem_cons.1 h with rfl | h
      · exact List.mem_cons_self ..
      · exact List.mem_cons_of_mem _ (witL_sub a _ x h)
theorem witL_length : ∀ (a b : List Lt3), (witL a b).length ≤ a.length
  | [], _ => Nat.le_refl _
  | y :: a, b => by
    rw [witL]
    split
    · have := witL_length a (b.eraseP (sameLB y)); simp; omega
    · have := witL_length a b; simp; omega

/-! ### Which one is greater -/
def standL (g : Sg) (a b : Lt3) : Int := rowsT g a.row b.row
theorem standL_more {g : Sg} {a b : Lt3} : standL g a b = 1 ↔ GtLit g a b := rowsT_more_iff
def overL (g : Sg) (x y : List Lt3) : Bool := decide (x ≠ []) && y.all fun u => x.any fun t => decide (standL g t u = 1)
theorem overL_iff {g : Sg} {a b : List Lt3} : overL g (witL a b) (witL b a) = true ↔ GtC g a b := by
  unfold overL GtC
  rw [gtMs_rem, ← witL_rem, ← witL_rem, Bool.and_eq_true, decide_eq_true_eq, List.all_eq_true]
  constructor
  · rintro ⟨h1, h2⟩
    refine ⟨fun e => h1 (List.map_eq_nil_iff.1 e), fun y hy => ?_⟩
    obtain ⟨y0, hy0, rfl⟩ := List.mem_map.1 hy
    have := h2 y0 hy0
    rw [List.any_eq_true] at this
    obtain ⟨x, hx, h⟩ := this
    exact ⟨repL x, List.mem_map.2 ⟨x, hx, rfl⟩, GtLit.rep.2 (standL_more.1 (of_decide_eq_true h))⟩
  · rintro ⟨h1, h2⟩
    refine ⟨fun e => h1 (by rw [e]; rfl), fun y hy => ?_⟩
    obtain ⟨x, hx, h⟩ := h2 (repL y) (List.mem_map.2 ⟨y, hy, rfl⟩)
    obtain ⟨x0, hx0, rfl⟩ := List.mem_map.1 hx
    rw [List.any_eq_true]
    exact ⟨x0, hx0, decide_eq_true (standL_more.2 (GtLit.rep.1 h))⟩
def stC (g : Sg) (c d : List Lt3) : Int := if (witL c d).length + (witL d c).length = 0 then 0 else if overL g (witL c d) (witL d c) then 1 else if overL g (witL d c) (witL c d) then -1 else 2
theorem wit_zero {c d : List Lt3} : (witL c d).length + (witL d c).length = 0 ↔ ∀ z, (repC c).count z = (repC d).count z := by
  have h1 : (witL c d).length = (remM (repC c) (repC d)).length := by rw [← witL_rem, List.length_map]
  have h2 : (witL d c).length = (remM (repC d) (repC c)).length := by rw [← witL_rem, List.length_map]
  rw [h1, h2]
  constructor
  · intro h z
    have e1 : remM (repC c) (repC d) = [] := List.eq_nil_of_length_eq_zero (by omega)
    have e2 : remM (repC d) (repC c) = [] := List.eq_nil_of_length_eq_zero (by omega)
    have c1 := remM_count z (repC c) (repC d)
    have c2 := remM_count z (repC d) (repC c)
    rw [e1] at c1
    rw [e2] at c2
    simp at c1 c2
    omega
  · intro h
    have e1 : remM (repC c) (repC d) = [] := by
      refine List.eq_nil_iff_forall_not_mem.2 fun z hz => ?_
      have := remM_mem.1 hz
      have := h z
      omega
    have e2 : remM (repC d) (repC c) = [] := by
      refine List.eq_nil_iff_forall_not_mem.2 fun z hz => ?_
      have := remM_mem.1 hz
      have := h z
      omega
    rw [e1, e2]; rfl
theorem GtC.not_zero {g : Sg} {c d : List Lt3} (h : GtC g c d) : ¬ ((witL c d).length + (witL d c).length = 0) := fun e => by
  rw [wit_zero] at e
  obtain ⟨x, hx⟩ := h.1
  have := e x
  omega
theorem GtC.asym {g : Sg} {a b : List Lt3} (h : GtC g a b) : ¬ GtC g b a := fun k => GtC.irrefl g a (h.trans k)
theorem stC_zero {g : Sg} {c d : List Lt3} : stC g c d = 0 ↔ ∀ z, (repC c).count z = (repC d).count z := by
  rw [← wit_zero]
  unfold stC
  by_cases h : (witL c d).length + (witL d c).length = 0
  · rw [if_pos h]; simp [h]
  · rw [if_neg h]
    constructor
    · intro e
      split at e
      · cases e
      · split at e <;> cases e
    · intro e; exact absurd e h
theorem stC_more {g : Sg} {c d : List Lt3} : stC g c d = 1 ↔ GtC g c d := by
  unfold stC
  constructor
  · intro e
    split at e
    · cases e
    · split at e
      · rename_i h; exact overL_iff.1 h
      · split at e <;> cases e
  · intro h
    rw [if_neg h.not_zero, if_pos (overL_iff.2 h)]
theorem stC_less {g : Sg} {c d : List Lt3} : stC g c d = -1 ↔ GtC g d c := by
  unfold stC
  constructor
  · intro e
    split at e
    · cases e
    · split at e
      · cases e
      · split at e
        · rename_i h; exact overL_iff.1 h
        · cases e
  · intro h
    have hz : ¬ ((witL c d).length + (witL d c).length = 0) := fun e => h.not_zero (by omega)
    rw [if_neg hz, if_neg (fun e => h.asym (overL_iff.1 e)), if_pos (overL_iff.2 h)]
theorem stC_trans {g : Sg} {a b c : List Lt3} (h1 : stC g a b = 1) (h2 : stC g b c = 1) : stC g a c = 1 := stC_more.2 ((stC_more.1 h1).trans (stC_more.1 h2))
theorem stC_cases (g : Sg) (a b : List Lt3) : stC g a b = 0 ∨ stC g a b = 1 ∨ stC g a b = -1 ∨ stC g a b = 2 := by
  unfold stC
  split
  · exact .inl rfl
  · split
    · exact .inr (.inl rfl)
    · split
      · exact .inr (.inr (.inl rfl))
      · exact .inr (.inr (.inr rfl))
theorem stC_push (g : Sg) (c : List Lt3) (l : Lt3) : stC g (c ++ [l]) c = 1 := stC_more.2 (GtC.more g l c)
/-- Of two without variables. -/
theorem stC_ground {g : Sg} {c d : List Lt3} (h : ∀ x ∈ c ++ d, ∀ t, (t = x.l ∨ t = x.r) → OkT g t ∧ Grd t) : stC g c d = - stC g d c ∧ stC g c d ≠ 2 ∧ (stC g c d = 0 → c.length = d.length) := by
  rcases GtC.total (g := g) h with k | k | k
  · rw [stC_more.2 k, stC_less.2 k]; exact ⟨by decide, by decide, fun e => by cases e⟩
  · rw [stC_less.2 k, stC_more.2 k]; exact ⟨by decide, by decide, fun e => by cases e⟩
  · rw [stC_zero.2 k, stC_zero.2 (fun z => (k z).symm)]
    refine ⟨by decide, by decide, fun _ => ?_⟩
    have := (List.perm_iff_count.2 k).length_eq
    simpa [repC] using this

/-! ### What is not used -/
def remL : List Lt3 → List Bool → List Lt3
  | [], _ => []
  | _ :: _, [] => []
  | b :: B, u :: us => if u then remL B us else b :: remL B us
theorem remL_all : ∀ (b : List Lt3), remL b (List.replicate b.length false) = b
  | [] => rfl
  | x :: b => by
    show remL (x :: b) (false :: List.replicate b.length false) = _
    rw [remL, if_neg (by decide), remL_all b]
theorem mem_remL {x : Lt3} : ∀ {b : List Lt3} {us : List Bool}, x ∈ remL b us ↔ ∃ j : Nat, us[j]? = some false ∧ b[j]? = some x
  | [], us => by simp [remL]
  | b :: B, [] => by simp [remL]
  | b :: B, u :: us => by
    rw [remL]
    cases u with
    | true =>
      rw [if_pos rfl, mem_remL]
      constructor
      · rintro ⟨j, h1, h2⟩; exact ⟨j + 1, by simpa using h1, by simpa using h2⟩
      · rintro ⟨j, h1, h2⟩
        cases j with
        | zero => simp at h1
        | succ j => exact ⟨j, by simpa using h1, by simpa using h2⟩
    | false =>
      rw [if_neg (by decide), List.mem_cons, mem_remL]
      constructor
      · rintro (rfl | ⟨j, h1, h2⟩)
        · exact ⟨0, rfl, rfl⟩
        · exact ⟨j + 1, by simpa using h1, by simpa using h2⟩
      · rintro ⟨j, h1, h2⟩
        cases j with
        | zero => simp at h2; exact .inl h2.symm
        | succ j => exact .inr ⟨j, by simpa using h1, by simpa using h2⟩
/-- The first one that fits is used. -/
theorem remL_set {p : Lt3 → Bool} {y : Lt3} : ∀ {b : List Lt3} {us : List Bool} {j : Nat}, us[j]? = some false → b[j]? = some y → p y = true → (∀ (l : Nat) (z : Lt3), l < j → us[l]? = some false → b[l]? = some z → p z = false) → remL b (us.set j true) = (remL b us).eraseP p
  | [], us, j, _, h2, _, _ => by simp at h2
  | b :: B, [], j, h1, _, _, _ => by simp at h1
  | b :: B, u :: us, j, h1, h2, h3, h4 => by
    cases j with
    | zero =>
      simp at h1 h2
      subst h1 h2
      show remL (b :: B) (true :: us) = _
      rw [remL, if_pos rfl, remL, if_neg (by decide), List.eraseP_cons_of_pos h3]
    | succ j =>
      show remL (b :: B) (u :: us.set j true) = _
      have ih := remL_set (b := B) (us := us) (j := j) (by simpa using h1) (by simpa using h2) h3 (fun l z hl k1 k2 => h4 (l + 1) z (by omega) (by simpa using k1) (by simpa using k2))
      cases u with
      | true => rw [remL, if_pos rfl, remL, if_pos rfl, ih]
      | false =>
        have hb : p b = false := h4 0 b (by omega) rfl rfl
        rw [remL, if_neg (by decide), remL, if_neg (by decide), List.eraseP_cons_of_neg (by rw [hb]; decide), ih]
theorem witL_keep {x : Lt3} {r b : List Lt3} (h : ∀ y ∈ b, sameLB x y = false) : witL (x :: r) b = x :: witL r b := by
  rw [witL, if_neg]
  rw [List.any_eq_true]
  rintro ⟨y, hy, h1⟩
  rw [h y hy] at h1
  cases h1
theorem witL_use {x y : Lt3} {r b : List Lt3} (hy : y ∈ b) (h : sameLB x y = true) : witL (x :: r) b = witL r (b.eraseP (sameLB x)) := by
  rw [witL, if_pos (List.any_eq_true.2 ⟨y, hy, h⟩)]

end Go.Proofs.YtbdabdjpgmnejaaGreat

/- Lat: a term equal to itself, by the reference. -/
namespace Go.Proofs.YtbdabdjpgmnejaaGreat
set_option linter.unusedVariables false
set_option linter.unusedSimpArgs false
open Go.RowKit

theorem sameAt_any (x y : T) (h : x = y) (hs : x.size ≤ 1000000000000) (n₀ : Nat) (a : Option Addr) (c : Nat) (a' : Option Addr) (c' : Nat) (w : World) (hn : n₀ ≤ w.heap.size) (hA : IsArgs n₀ w x.args a c) (hB : IsArgs n₀ w y.args a' c') :
    Calls Tryz.prog 76 #[tm x.head a x.args.length c, tm y.head a' y.args.length c'] w fun e w' => e = .returned (.bool true) ∧ Below w.heap.size w w' := by
  subst h
  refine (refSame_any x x hs hs n₀ a c a' c' w hn hA hB).mono fun e w' hh => ⟨?_, hh.2⟩
  rw [hh.1, T.cmp_self]; rfl


end Go.Proofs.YtbdabdjpgmnejaaGreat

/- Contract of Few (layer 5): rows of terms with at most 500 parts. -/
namespace Go.Proofs.YtbdabdjpgmnejaaGreat
set_option linter.unusedVariables false
set_option linter.unusedSimpArgs false
open Go.RowKit

def Few5I (ts : List T) (w : World) (n i : Value) (wr : World) : Prop := ∃ k m : Nat, k ≤ ts.length ∧ i = .int .i64 k ∧ n = .int .i64 (m : Int) ∧ m ≤ 1001 ∧ (m ≤ 500 → T.sizes (ts.take k) ≤ m) ∧ Below w.heap.size w wr
def Few5Post (ts : List T) (w : World) (e : Ending) (w' : World) : Prop := ∃ b : Bool, e = .returned (.bool b) ∧ (b = true → T.sizes ts ≤ 500) ∧ Below w.heap.size w w'
theorem sizes_take_succ {ts : List T} {k : Nat} {s : T} (h : ts[k]? = some s) : T.sizes (ts.take (k + 1)) = T.sizes (ts.take k) + s.size := by
  obtain ⟨hk, e⟩ := List.getElem?_eq_some_iff.1 h
  rw [List.take_succ_eq_append_getElem hk, e, T.sizes_append]
  simp [T.sizes]

set_option maxRecDepth 100000 in
set_option maxHeartbeats 1000000 in
theorem few5_any (ts : List T) (n₀ : Nat) (a : Option Addr) (c : Nat) (w : World) (hn : n₀ ≤ w.heap.size) (hA : IsArgs n₀ w ts a c) :
    Calls Tryz.prog 44 #[.slice a ts.length c] w (Few5Post ts w) := by
  have hl : ts.length ≤ c ∧ c ≤ maxLen := ⟨hA.1, hA.2.1⟩
  unfold maxLen at hl
  obtain ⟨hl1, hl2⟩ := hl
  have HA := Lib.hid hA
  clear hA
  go_enter Tryz.func44, Tryz.ntmps44
  go_wp2
  go_loopw [3, 4] (fun n i wr => Few5I ts w n i wr) (fun _ i _ => ts.length - (intOf i).toNat)
  case atStart => exact ⟨0, 0, Nat.zero_le _, rfl, rfl, by omega, by simp [T.sizes], Below.refl _ _⟩
  case round =>
    obtain ⟨k, m, hk, rfl, rfl, hm, hall, hB⟩ := hrel
    have HB := Lib.hid hB
    have HALL := Lib.hid hall
    have hbz := hB.size
    clear hB hall
    by_cases hlt : k < ts.length
    · have hk0 : (0 : Int) ≤ (k : Int) := Int.natCast_nonneg _
      have hk1 : (k : Int) < (ts.length : Int) := by omega
      by_cases hm60 : m ≤ 500
      · have hmi : (m : Int) ≤ 500 := by omega
        obtain ⟨b, o, s, a', c', rfl, hbn, hs, hswf, hc1, hc2, hA'⟩ := (HA.out.below (HB.out.mono hn)).elem (i := k) hlt
        have hbw : b < wr.heap.size := by omega
        have CN := Lib.hid (count_any s.size s (Nat.le_refl _) 500 n₀ a' c' wr (by omega) (by omega) hA')
        have HS := Lib.hid hs
        clear hs hswf hA'
        go_wp2_with fail
        refine CN.out.mono ?_
        rintro e w2 ⟨rfl, hb2⟩
        have HB2 := Lib.hid (HB.out.trans (hb2.mono hbz))
        obtain ⟨q, hq⟩ : ∃ q, min s.size (500 + 1) = q := ⟨_, rfl⟩
        rw [hq]
        have hq1 : q ≤ 501 := by omega
        have HQ := Lib.hid hq
        clear hb2 hq
        go_wp2
        go_roundw
        case rel =>
          refine ⟨k + 1, m + q, by omega, by go_num, by go_num, by omega, fun hle => ?_, HB2.out⟩
          rw [sizes_take_succ HS.out]
          have := HALL.out hm60
          have := HQ.out
          omega
        case measure => simp [intOf]; omega
      · have hmi : ¬ ((m : Int) ≤ 500) := by omega
        go_wp2
        go_ret
        exact ⟨false, by simp <;> omega, by simp, HB.out⟩
    · obtain rfl : k = ts.length := by omega
      go_wp2
      go_ret
      refine ⟨decide ((m : Int) ≤ 500), rfl, fun h => ?_, HB.out⟩
      have hm60 : m ≤ 500 := by have := of_decide_eq_true h; omega
      have := HALL.out hm60
      rw [List.take_length] at this
      omega
theorem mem_sizes {ts : List T} {t : T} (h : t ∈ ts) : t.size ≤ T.sizes ts := by
  obtain ⟨i, hi⟩ := List.getElem?_of_mem h
  have := T.size_lt_of_mem hi
  omega


end Go.Proofs.YtbdabdjpgmnejaaGreat

/- Contract of the reference's In (and, by import, what stays when terms are put). -/
namespace Go.Proofs.YtbdabdjpgmnejaaGreat
set_option linter.unusedVariables false
set_option linter.unusedSimpArgs false
open Go.RowKit

def InI (n : Int) (zs : List Int) (w : World) (i : Value) (wr : World) : Prop := ∃ k : Nat, k ≤ zs.length ∧ i = .int .i64 k ∧ (∀ j, j < k → zs[j]? ≠ some n) ∧ wr = w

set_option maxRecDepth 100000 in
theorem in_any (n : Int) (zs : List Int) (n₀ : Nat) (a : Option Addr) (c : Nat) (w : World) (hn : n₀ ≤ w.heap.size) (hZ : IsIs n₀ w zs a c) :
    Calls Tryz.prog 17 #[.int .i64 n, .slice a zs.length c] w fun e w' => e = .returned (.bool (decide (n ∈ zs))) ∧ Below w.heap.size w w' := by
  have hl : zs.length ≤ c ∧ c ≤ maxLen := ⟨hZ.1, hZ.2.1⟩
  unfold maxLen at hl
  obtain ⟨hl1, hl2⟩ := hl
  have HZ := Lib.hid hZ
  clear hZ
  go_enter Tryz.func17, Tryz.ntmps17
  go_wp2
  go_loopw [5] (fun i wr => InI n zs w i wr) (fun i _ => zs.length - (intOf i).toNat)
  case atStart => exact ⟨0, Nat.zero_le _, rfl, fun j h => by omega, rfl⟩
  case round =>
    obtain ⟨k, hk, rfl, hno, rfl⟩ := hrel
    have HN := Lib.hid hno
    clear hno
    by_cases hlt : k < zs.length
    · obtain ⟨b, o, z, rfl, hbn, hz, hcz⟩ := HZ.out.elem (k := k) hlt
      have hk0 : (0 : Int) ≤ (k : Int) := Int.natCast_nonneg _
      have hk1 : (k : Int) < (zs.length : Int) := by omega
      have HZK := Lib.hid hz
      clear hz
      by_cases q : z = n
      · subst q
        have hd : decide (z ∈ zs) = true := by simpa using List.mem_of_getElem? HZK.out
        go_wp2
        go_ret
        exact ⟨by first | (rw [hd]; rfl) | rfl, Below.refl _ _⟩
      · have q' : (z == n) = false := by simpa using q
        go_wp2
        go_roundw
        case rel =>
          refine ⟨k + 1, by omega, by go_num, fun j hj => ?_, rfl⟩
          by_cases e : j = k
          · subst e
            rw [HZK.out]
            intro e
            exact q (Option.some.inj e)
          · exact HN.out j (by omega)
        case measure => simp [intOf]; omega
    · have hd : decide (n ∈ zs) = false := by
        simp only [decide_eq_false_iff_not]
        intro hm
        obtain ⟨j, hj⟩ := List.getElem?_of_mem hm
        exact HN.out j (by have := (List.getElem?_eq_some_iff.1 hj).1; omega) hj
      go_wp2
      go_ret
      exact ⟨by first | (rw [hd]; rfl) | rfl, Below.refl _ _⟩

end Go.Proofs.YtbdabdjpgmnejaaGreat

