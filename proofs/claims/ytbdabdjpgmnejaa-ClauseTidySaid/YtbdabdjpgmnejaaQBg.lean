/- QBg: joined of Kb6, Lc, St1, Lp, Kc, Lat, Fw5, RVr, Tc. -/
import Derived.Test.YtbdabdjpgmnejaaQBf
import Derived.Test.YtbdabdjpgmnejaaQBc
import Derived.Test.YtbdabdjpgmnejaaQBe
import Derived.Test.YtbdabdjpgmnejaaQBd
import Derived.Test.YtbdabdjpgmnejaaSam0
import Derived.StillTailTactics
import Derived.IntWalk
import Derived.Deep.CutRange
import Derived.Deep.AppendLies
import Derived.Deep.RegionLaw
/- Literals and clauses compared, in plain words. -/
namespace Go.Proofs.Ytbdabdjpgmnejaa
set_option linter.unusedVariables false
set_option linter.unusedSimpArgs false
open Go.RowKit
structure Lt3 where
  neg : Bool
  l : T
  r : T
  deriving DecidableEq
def Lt3.row (x : Lt3) : List T := rowL x.neg x.l x.r
/-- The same literal, its sides in either order. -/
def sameL (a b : Lt3) : Prop := a.neg = b.neg ∧ sidesT a.l a.r b.l b.r
theorem sidesT.symm {l r l' r' : T} (h : sidesT l r l' r') : sidesT l' r' l r := by
  rcases h with ⟨rfl, rfl⟩ | ⟨rfl, rfl⟩
  · exact .inl ⟨rfl, rfl⟩
  · exact .inr ⟨rfl, rfl⟩
theorem sidesT.trans {l r l' r' l2 r2 : T} (h : sidesT l r l' r') (k : sidesT l' r' l2 r2) : sidesT l r l2 r2 := by
  rcases h with ⟨rfl, rfl⟩ | ⟨rfl, rfl⟩
  · exact k
  · rcases k with ⟨rfl, rfl⟩ | ⟨rfl, rfl⟩
    · exact .inr ⟨rfl, rfl⟩
    · exact .inl ⟨rfl, rfl⟩
theorem sameL.refl (a : Lt3) : sameL a a := ⟨rfl, .inl ⟨rfl, rfl⟩⟩
theorem sameL.symm {a b : Lt3} (h : sameL a b) : sameL b a := ⟨h.1.symm, h.2.symm⟩
theorem sameL.trans {a b c : Lt3} (h : sameL a b) (k : sameL b c) : sameL a c := ⟨h.1.trans k.1, h.2.trans k.2⟩
/-- One literal for all that are the same. -/
noncomputable def repL (a : Lt3) : Lt3 := @Classical.epsilon Lt3 ⟨a⟩ (fun x => sameL x a)
theorem repL_same (a : Lt3) : sameL (repL a) a := @Classical.epsilon_spec Lt3 (fun x => sameL x a) ⟨a, sameL.refl a⟩
theorem repL_eq {a b : Lt3} : repL a = repL b ↔ sameL a b := by
  constructor
  · intro h
    have h1 := (repL_same a).symm
    rw [h] at h1
    exact h1.trans (repL_same b)
  · intro h
    have : (fun x => sameL x a) = (fun x => sameL x b) := funext fun x => propext ⟨fun k => k.trans h, fun k => k.trans h.symm⟩
    unfold repL
    rw [this]
def Lt3.sub (f : Int → T) (a : Lt3) : Lt3 := ⟨a.neg, a.l.sub f, a.r.sub f⟩
/-! ### Clauses -/
end Go.Proofs.Ytbdabdjpgmnejaa

/- Clauses in memory: rows of literals. -/
namespace Go.Proofs.Ytbdabdjpgmnejaa
set_option linter.unusedVariables false
set_option linter.unusedSimpArgs false
open Go.RowKit
abbrev LV.cells (x : LV) : List Value := [.bool x.n, .int .i64 x.l.head, .slice x.pa x.l.args.length x.ca, .int .i64 x.r.head, .slice x.pb x.r.args.length x.cb]
/-- The literal, without its addresses. -/
def LV.t3 (x : LV) : Lt3 := ⟨x.n, x.l, x.r⟩
/-- A literal's five cells at an address. -/
def At5 (W : World) (b o : Nat) (x : LV) : Prop :=
  W.cell? ⟨b, o, none⟩ = some (.bool x.n) ∧ W.cell? ⟨b, o + 1, none⟩ = some (.int .i64 x.l.head) ∧ W.cell? ⟨b, o + 2, none⟩ = some (.slice x.pa x.l.args.length x.ca) ∧ W.cell? ⟨b, o + 3, none⟩ = some (.int .i64 x.r.head) ∧ W.cell? ⟨b, o + 4, none⟩ = some (.slice x.pb x.r.args.length x.cb)
theorem At5.keep {W X : World} {b o : Nat} {x : LV} (h : At5 W b o x) (hc : ∀ i, X.cell? ⟨b, i, none⟩ = W.cell? ⟨b, i, none⟩) : At5 X b o x :=
  ⟨(hc _).trans h.1, (hc _).trans h.2.1, (hc _).trans h.2.2.1, (hc _).trans h.2.2.2.1, (hc _).trans h.2.2.2.2⟩
/-- A row of literals in memory. -/
def IsCl (n₀ : Nat) (W : World) (P : List LV) (a : Option Addr) (c : Nat) : Prop :=
  P.length ≤ c ∧ c ≤ maxLen ∧ (P = [] ∨ ∃ b o, a = some ⟨b, o, none⟩ ∧ b < n₀ ∧ ∀ (j : Nat) (x : LV), P[j]? = some x → At5 W b (o + j * 5) x ∧ IsLv n₀ W x)
theorem IsCl.below {n₀ : Nat} {w w' : World} {P : List LV} {a : Option Addr} {c : Nat} (h : IsCl n₀ w P a c) (hb : Below n₀ w w') : IsCl n₀ w' P a c := by
  obtain ⟨h1, h2, h3⟩ := h
  refine ⟨h1, h2, ?_⟩
  rcases h3 with h3 | ⟨b, o, h4, h5, h6⟩
  · exact .inl h3
  · exact .inr ⟨b, o, h4, h5, fun j x hx => ⟨(h6 j x hx).1.keep (fun i => hb.cell (p := ⟨b, i, none⟩) h5), (h6 j x hx).2.below hb⟩⟩
theorem IsCl.mono {n₀ n₁ : Nat} {w : World} {P : List LV} {a : Option Addr} {c : Nat} (h : IsCl n₀ w P a c) (hn : n₀ ≤ n₁) : IsCl n₁ w P a c := by
  obtain ⟨h1, h2, h3⟩ := h
  refine ⟨h1, h2, ?_⟩
  rcases h3 with h3 | ⟨b, o, h4, h5, h6⟩
  · exact .inl h3
  · exact .inr ⟨b, o, h4, by omega, fun j x hx => ⟨(h6 j x hx).1, (h6 j x hx).2.mono hn⟩⟩
theorem IsCl.elem {n₀ : Nat} {w : World} {P : List LV} {a : Option Addr} {c : Nat} (h : IsCl n₀ w P a c) {i : Nat} (hi : i < P.length) :
    ∃ (b o : Nat) (x : LV), a = some ⟨b, o, none⟩ ∧ b < n₀ ∧ P[i]? = some x ∧ At5 w b (o + i * 5) x ∧ IsLv n₀ w x := by
  obtain ⟨_, _, h3⟩ := h
  rcases h3 with rfl | ⟨b, o, rfl, h4, h5⟩
  · simp at hi
  · exact ⟨b, o, P[i], rfl, h4, List.getElem?_eq_getElem hi, h5 i _ (List.getElem?_eq_getElem hi)⟩
theorem IsCl.nil (n₀ : Nat) (w : World) (a : Option Addr) {c : Nat} (hc : c ≤ maxLen) : IsCl n₀ w [] a c := ⟨by simp, hc, .inl rfl⟩
/-! ### Rows of one's own -/
theorem infoLit : (Try.prog.info? 30).map (fun i => (i.zero, i.size, i.bytes)) = some (some (.agg #[.bool false, .int .i64 0, .slice none 0 0, .int .i64 0, .slice none 0 0]), 5, 72) := by kernel_rfl
/-- The sides of a literal, in blocks of a kind. -/
structure IsLvp (ok : Nat → Prop) (w : World) (x : LV) : Prop where
  lw : (Lit.int .i64 x.l.head).wf = true
  rw : (Lit.int .i64 x.r.head).wf = true
  la : IsArgsp ok w x.l.args x.pa x.ca
  ra : IsArgsp ok w x.r.args x.pb x.cb
theorem IsLvp.keep {ok ok' : Nat → Prop} {w w' : World} {x : LV} (h : IsLvp ok w x) (hb : ∀ b, ok b → w'.heap[b]? = w.heap[b]?) (hm : ∀ b, ok b → ok' b) : IsLvp ok' w' x := ⟨h.lw, h.rw, h.la.keep hb hm, h.ra.keep hb hm⟩
theorem isLvp_lt {n : Nat} {w : World} {x : LV} : IsLvp (· < n) w x ↔ IsLv n w x := ⟨fun h => ⟨h.lw, h.rw, isArgsp_lt.1 h.la, isArgsp_lt.1 h.ra⟩, fun h => ⟨h.lw, h.rw, isArgsp_lt.2 h.la, isArgsp_lt.2 h.ra⟩⟩
def lcells (P : List LV) : List Value := (P.map LV.cells).flatten
theorem lcells_length (P : List LV) : (lcells P).length = P.length * 5 := by
  induction P with
  | nil => rfl
  | cons x P ih => simp only [lcells, List.map_cons, List.flatten_cons, List.length_append] at *; simp [ih]; omega
theorem lcells_append (P Q : List LV) : lcells (P ++ Q) = lcells P ++ lcells Q := by simp [lcells]
theorem lcells_get {P : List LV} {j : Nat} {x : LV} (h : P[j]? = some x) : (lcells P)[j * 5]? = some (.bool x.n) ∧ (lcells P)[j * 5 + 1]? = some (.int .i64 x.l.head) ∧ (lcells P)[j * 5 + 2]? = some (.slice x.pa x.l.args.length x.ca) ∧ (lcells P)[j * 5 + 3]? = some (.int .i64 x.r.head) ∧ (lcells P)[j * 5 + 4]? = some (.slice x.pb x.r.args.length x.cb) := by
  induction P generalizing j with
  | nil => simp at h
  | cons y P ih =>
    cases j with
    | zero =>
      simp at h
      subst h
      exact ⟨rfl, rfl, rfl, rfl, rfl⟩
    | succ j =>
      have := ih (j := j) (by simpa using h)
      have e : ∀ i, (lcells (y :: P))[(j + 1) * 5 + i]? = (lcells P)[j * 5 + i]? := fun i => by
        simp only [lcells, List.map_cons, List.flatten_cons]
        rw [List.getElem?_append_right (by simp; omega)]
        congr 1
        simp
        omega
      exact ⟨(e 0).trans this.1, (e 1).trans this.2.1, (e 2).trans this.2.2.1, (e 3).trans this.2.2.2.1, (e 4).trans this.2.2.2.2⟩
/-- A row of literals of one's own. -/
def OL (ok : Nat → Prop) (n₁ : Nat) (v : Value) (P : List LV) (W : World) : Prop := W.ownsRow n₁ 30 5 v P.length (lcells P) ∧ ∀ x ∈ P, IsLvp ok W x
theorem OL.nil (ok : Nat → Prop) (n₁ : Nat) (W : World) : OL ok n₁ (.slice none 0 0) [] W := ⟨⟨by simp [lcells], .inl ⟨rfl, rfl⟩⟩, by simp⟩
theorem OL.kept {ok ok' : Nat → Prop} {n₁ : Nat} {v : Value} {P : List LV} {W W' : World} (h : OL ok n₁ v P W) (hk : ∀ g, v.ownBlock = some g → W'.heap[g]? = W.heap[g]?) (hb : ∀ b, ok b → W'.heap[b]? = W.heap[b]?) (hm : ∀ b, ok b → ok' b) : OL ok' n₁ v P W' :=
  ⟨Mm.ownsRow_kept h.1 hk, fun x hx => (h.2 x hx).keep hb hm⟩
theorem OL.block {ok : Nat → Prop} {n₁ : Nat} {v : Value} {P : List LV} {W : World} (h : OL ok n₁ v P W) {g : Nat} (hg : v.ownBlock = some g) : n₁ ≤ g ∧ g < W.heap.size := by
  obtain ⟨a, b, _⟩ := Mm.rowBlock h.1 hg
  exact ⟨a, b⟩
theorem OL.later {ok : Nat → Prop} {n₁ : Nat} {v : Value} {P : List LV} {W W' : World} (h : OL ok n₁ v P W) (ho : ∀ b, ok b → b < W.heap.size) (hb : Below W.heap.size W W') : OL ok n₁ v P W' :=
  h.kept (fun g hg => hb.block g (h.block hg).2) (fun b hk => hb.block b (ho b hk)) (fun _ x => x)
theorem OL.args {ok : Nat → Prop} {n₁ : Nat} {v : Value} {P : List LV} {W : World} (h : OL ok n₁ v P W) (ho : ∀ b, ok b → b < W.heap.size) : ∃ a c, v = .slice a P.length c ∧ IsCl W.heap.size W P a c := by
  have hbl := fun g (hg : v.ownBlock = some g) => h.block hg
  have hcells := fun g hg => h.1.cells (g := g) hg
  have hel : ∀ x ∈ P, IsLv W.heap.size W x := fun x hx => isLvp_lt.1 ((h.2 x hx).keep (fun _ _ => rfl) ho)
  rcases h.1.2 with ⟨rfl, h0⟩ | ⟨g, cap, cur, rfl, hb, hh, hn, hc, hs, _⟩
  · have : P = [] := List.eq_nil_of_length_eq_zero h0
    subst this
    exact ⟨none, 0, rfl, IsCl.nil _ _ _ (by simp [maxLen])⟩
  · refine ⟨_, cap, rfl, hn, hc, .inr ⟨g, 0, rfl, (hbl g rfl).2, fun j x hx => ⟨?_, hel x (List.mem_of_getElem? hx)⟩⟩⟩
    have hc5 : ∀ i u, (lcells P)[i]? = some u → W.cell? ⟨g, i, none⟩ = some u := fun i u hu => by
      have := hcells g rfl i u hu
      rw [addr_add] at this
      simpa using this
    obtain ⟨g0, g1, g2, g3, g4⟩ := lcells_get hx
    simp only [Nat.zero_add]
    exact ⟨hc5 _ _ g0, hc5 _ _ g1, hc5 _ _ g2, hc5 _ _ g3, hc5 _ _ g4⟩
/-- What is appended: literals whose cells lie at an address. -/
def SrcL (w : World) (Q : List LV) (a : Option Addr) (c : Nat) : Prop :=
  (a = none → c = 0 ∧ Q = []) ∧ ∀ ad, a = some ad → ∀ j u, (lcells Q)[j]? = some u → w.cell? (ad.add j) = some u
theorem SrcL.of_cl {n₁ : Nat} {w : World} {Q : List LV} {a : Option Addr} {c : Nat} (hA : IsCl n₁ w Q a c) (hnil : a = none → c = 0) : SrcL w Q a c := by
  refine ⟨fun h => ⟨hnil h, ?_⟩, fun ad e j u hj => ?_⟩
  · rcases hA.2.2 with h' | ⟨b, o, h', _⟩
    · exact h'
    · rw [h] at h'; cases h'
  · rcases hA.2.2 with rfl | ⟨b, o, rfl, hb, hr⟩
    · simp [lcells] at hj
    · cases e
      rw [addr_add]
      have hjl : j < Q.length * 5 := by rw [← lcells_length]; exact (List.getElem?_eq_some_iff.1 hj).1
      have hx : Q[j / 5]? = some Q[j / 5] := List.getElem?_eq_getElem (by omega)
      obtain ⟨⟨c0, c1, c2, c3, c4⟩, _⟩ := hr _ _ hx
      obtain ⟨g0, g1, g2, g3, g4⟩ := lcells_get hx
      have hm : j % 5 = 0 ∨ j % 5 = 1 ∨ j % 5 = 2 ∨ j % 5 = 3 ∨ j % 5 = 4 := by omega
      rcases hm with e | e | e | e | e
      · have hj5 : j = j / 5 * 5 := by omega
        have : (lcells Q)[j]? = (lcells Q)[j / 5 * 5]? := by rw [← hj5]
        rw [this, g0] at hj; cases hj
        have : o + j = o + j / 5 * 5 := by omega
        rw [this]; exact c0
      · have hj5 : j = j / 5 * 5 + 1 := by omega
        have : (lcells Q)[j]? = (lcells Q)[j / 5 * 5 + 1]? := by rw [← hj5]
        rw [this, g1] at hj; cases hj
        have : o + j = o + j / 5 * 5 + 1 := by omega
        rw [this]; exact c1
      · have hj5 : j = j / 5 * 5 + 2 := by omega
        have : (lcells Q)[j]? = (lcells Q)[j / 5 * 5 + 2]? := by rw [← hj5]
        rw [this, g2] at hj; cases hj
        have : o + j = o + j / 5 * 5 + 2 := by omega
        rw [this]; exact c2
      · have hj5 : j = j / 5 * 5 + 3 := by omega
        have : (lcells Q)[j]? = (lcells Q)[j / 5 * 5 + 3]? := by rw [← hj5]
        rw [this, g3] at hj; cases hj
        have : o + j = o + j / 5 * 5 + 3 := by omega
        rw [this]; exact c3
      · have hj5 : j = j / 5 * 5 + 4 := by omega
        have : (lcells Q)[j]? = (lcells Q)[j / 5 * 5 + 4]? := by rw [← hj5]
        rw [this, g4] at hj; cases hj
        have : o + j = o + j / 5 * 5 + 4 := by omega
        rw [this]; exact c4
theorem SrcL.of_one {w : World} {x : LV} {b o : Nat} (h : At5 w b o x) : SrcL w [x] (some ⟨b, o, none⟩) 1 := by
  obtain ⟨c0, c1, c2, c3, c4⟩ := h
  refine ⟨(fun h => by cases h), fun ad e j u hj => ?_⟩
  cases e
  rw [addr_add]
  match j, hj with
  | 0, hj => simp [lcells] at hj; subst hj; exact c0
  | 1, hj => simp [lcells] at hj; subst hj; exact c1
  | 2, hj => simp [lcells] at hj; subst hj; exact c2
  | 3, hj => simp [lcells] at hj; subst hj; exact c3
  | 4, hj => simp [lcells] at hj; subst hj; exact c4
  | j + 5, hj => simp [lcells] at hj
theorem lcells_one (Q : List LV) : ∀ u ∈ lcells Q, u.oneCell' = true := by
  intro u hu
  simp only [lcells, List.mem_flatten, List.mem_map] at hu
  obtain ⟨l, ⟨x, _, rfl⟩, hu⟩ := hu
  simp at hu
  rcases hu with rfl | rfl | rfl | rfl | rfl <;> rfl
/-- append(v, ls...), where v is a row of one's own. -/
theorem wpList_append_ls {w : World} {ops : Array Oper} {rest : List Oper} {o : Oper} {a : Act} {Q : Exit → Act → World → Prop} (hgd : o.guard = none) (s x : Operand)
    (ho : o.op = .call { callee := .builtin .append, args := #[s, x], argTypes := #[22, 22] }) (ok : Nat → Prop) (n₁ : Nat) (v : Value) (P : List LV) (hs : a.eval s = v) (hO : OL ok n₁ v P w) (hn : n₁ ≤ w.heap.size)
    (ls : List LV) (a' : Option Addr) (c' : Nat) (hx : a.eval x = .slice a' ls.length c') (hS : SrcL w ls a' c') (hl : P.length + ls.length ≤ 10000000)
    (h : ∀ v' w', w'.ownsRow n₁ 30 5 v' (P ++ ls).length (lcells (P ++ ls)) → w.grownBy w' v.ownBlock → (v'.ownBlock = v.ownBlock ∨ v'.ownBlock = some w.heap.size) → wpList Try.prog ops Q rest (a.put o.dst v') w') : wpList Try.prog ops Q (o :: rest) a w := by
  obtain ⟨i0, hi, hz0, hz1, hz2⟩ := info_parts infoLit
  obtain ⟨hown, _⟩ := hO
  obtain ⟨hnone, hcl⟩ := hS
  cases a' with
  | none =>
    obtain ⟨rfl, rfl⟩ := hnone rfl
    refine wpList_append_own_none hgd s x 22 ho n₁ 30 i0 5 Try.underlying22 hi v P.length (lcells P) hs hown hx ?_
    exact h v w (by simpa using hown) ⟨rfl, rfl, rfl, Nat.le_refl _, fun _ _ _ => rfl⟩ (.inl rfl)
  | some ad =>
    have hnl : (lcells ls).length = ls.length * 5 := lcells_length ls
    obtain ⟨v', w', hr, h2, h3, _, h5⟩ := run_append_own_at (P := Try.prog) w n₁ 22 o.type 30 i0 (.agg #[.bool false, .int .i64 0, .slice none 0 0, .int .i64 0, .slice none 0 0]) 5 72 Try.underlying22 hi hz0 hz1 hz2 rfl (by decide) v P.length (lcells P) hown ad ls.length c' (lcells ls) hnl (hcl ad rfl) (lcells_one ls) (by unfold maxLen; omega) (by omega) hn
    refine wpList_plain hgd fun K hK => ?_
    unfold Oper.wp execOp
    simp only [ho, resolve, invoke, builtin, Sem.run_bind, Sem.run_pure, Result.andThen_ok, List.map_toArray, List.map_cons, List.map_nil, hs, hx, hr]
    exact hK _ _ (h v' w' (by rw [lcells_append]; simpa using h2) h3 h5)
/-- .. whose elements lie in blocks that the row doesn't touch. -/
theorem OL.append {ok : Nat → Prop} {n₁ : Nat} {v v' : Value} {P ls : List LV} {w w' : World} (h : OL ok n₁ v P w) (hr : w'.ownsRow n₁ 30 5 v' (P ++ ls).length (lcells (P ++ ls))) (hg : w.grownBy w' v.ownBlock) (ho : ∀ b, ok b → b < w.heap.size ∧ v.ownBlock ≠ some b) (hls : ∀ x ∈ ls, IsLvp ok w x) : OL ok n₁ v' (P ++ ls) w' := by
  have hb : ∀ b, ok b → w'.heap[b]? = w.heap[b]? := fun b hk => hg.block b (ho b hk).1 (fun e => (ho b hk).2 e.symm)
  refine ⟨hr, fun x hx => ?_⟩
  rcases List.mem_append.1 hx with hx | hx
  · exact (h.2 x hx).keep hb (fun _ x => x)
  · exact (hls x hx).keep hb (fun _ x => x)
end Go.Proofs.Ytbdabdjpgmnejaa

/- St0: split off Stv: what names neither Of nor the reference's Of. -/
/- What stays when terms are put for variables: variables of terms, in plain words. And the contract of the reference's In. -/
namespace Go.Proofs.Ytbdabdjpgmnejaa
set_option linter.unusedVariables false
set_option linter.unusedSimpArgs false
open Go.RowKit
/-- The heads of all parts of a term. -/
def T.heads (t : T) : List Int := (T.subs 1 t).map (fun x => x.2.head)
mutual
theorem heads_level (l l' : Nat) : (t : T) → (T.subs l t).map (fun x => x.2.head) = (T.subs l' t).map (fun x => x.2.head)
  | .node h ts => by simp only [T.subs, List.map_cons]; rw [headss_level (l + 1) (l' + 1) ts]
theorem headss_level (l l' : Nat) : (ts : List T) → (T.subss l ts).map (fun x => x.2.head) = (T.subss l' ts).map (fun x => x.2.head)
  | [] => rfl
  | t :: ts => by simp only [T.subss, List.map_append]; rw [heads_level l l' t, headss_level l l' ts]
end
theorem T.heads_eq (t : T) : t.heads = t.head :: (t.args.map T.heads).flatten := by
  unfold T.heads
  rw [T.subs_eq, List.map_cons]
  congr 1
  have : ∀ ts : List T, (T.subss 2 ts).map (fun x => x.2.head) = (ts.map (fun t => (T.subs 1 t).map (fun x => x.2.head))).flatten := by
    intro ts
    induction ts with
    | nil => rfl
    | cons t ts ih => simp only [T.subss, List.map_append, List.map_cons, List.flatten_cons]; rw [ih, heads_level 2 1 t]
  exact this t.args
theorem mem_varsOf (pre : List (Nat × T)) (v : Int) : v ∈ varsOf pre ↔ ∃ x ∈ pre, x.2.head < 0 ∧ v = -1 - x.2.head := by
  suffices h : ∀ (pre : List (Nat × T)) (acc : List Int), v ∈ pre.foldl varStep acc ↔ v ∈ acc ∨ ∃ x ∈ pre, x.2.head < 0 ∧ v = -1 - x.2.head by
    have := h pre []
    simpa [varsOf] using this
  intro pre
  induction pre with
  | nil => intro acc; simp
  | cons x pre ih =>
    intro acc
    rw [List.foldl_cons, ih]
    have : v ∈ varStep acc x ↔ v ∈ acc ∨ (x.2.head < 0 ∧ v = -1 - x.2.head) := by
      unfold varStep
      split
      · rename_i h0
        split
        · rename_i hc
          constructor
          · exact .inl
          · rintro (h | ⟨_, rfl⟩)
            · exact h
            · simpa using hc
        · simp [h0]
      · rename_i h0
        simp [h0]
    rw [this]
    simp only [List.mem_cons, exists_eq_or_imp]
    constructor
    · rintro ((h | h) | h)
      · exact .inl h
      · exact .inr (.inl h)
      · exact .inr (.inr h)
    · rintro (h | h | h)
      · exact .inl (.inl h)
      · exact .inl (.inr h)
      · exact .inr h
theorem mem_vars (t : T) (v : Int) : v ∈ varsOf (T.subs 1 t) ↔ ∃ h ∈ t.heads, h < 0 ∧ v = -1 - h := by
  rw [mem_varsOf]
  unfold T.heads
  simp only [List.mem_map]
  constructor
  · rintro ⟨x, hx, h1, h2⟩; exact ⟨_, ⟨x, hx, rfl⟩, h1, h2⟩
  · rintro ⟨_, ⟨x, hx, rfl⟩, h1, h2⟩; exact ⟨x, hx, h1, h2⟩
/-- In a good term variables stand without arguments. -/
theorem good_leaf {t : T} (h : bad (T.subs 1 t) = false) (hn : t.head < 0) : t.args = [] := by
  have := good_head h
  simp only [okB, if_pos hn, Bool.and_eq_true, decide_eq_true_iff] at this
  exact List.eq_nil_of_length_eq_zero this.1
theorem sub_self (f : Int → T) : ∀ (N : Nat) (t : T), t.size ≤ N → bad (T.subs 1 t) = false → (∀ g ∈ t.heads, g < 0 → f (-1 - g) = vt (-1 - g)) → t.sub f = t := by
  intro N
  induction N with
  | zero => intro t ht; have := T.size_pos t; omega
  | succ N ih =>
    intro t ht hg hf
    by_cases q : t.head < 0
    · rw [T.sub_neg q, hf t.head (by rw [T.heads_eq]; simp) q]
      have ha := good_leaf hg q
      conv => rhs; rw [← T.eta t, ha]
      simp only [vt]
      congr 1
      omega
    · rw [T.sub_pos q]
      conv => rhs; rw [← T.eta t]
      congr 1
      conv => rhs; rw [← List.map_id t.args]
      apply List.map_congr_left
      intro s hs
      obtain ⟨i, hi⟩ := List.getElem?_of_mem hs
      exact ih s (by have := T.size_lt_of_mem hi; have := T.size_eq t; omega) (good_arg hg hi) (fun g hg1 hg2 => hf g (by rw [T.heads_eq]; exact List.mem_cons_of_mem _ (List.mem_flatten.2 ⟨_, List.mem_map.2 ⟨s, hs, rfl⟩, hg1⟩)) hg2)
end Go.Proofs.Ytbdabdjpgmnejaa

/- Literals: what the document says of them; plain facts. -/
namespace Go.Proofs.Ytbdabdjpgmnejaa
set_option linter.unusedVariables false
set_option linter.unusedSimpArgs false
open Go.RowKit
/-- Do the sides of a literal go together? -/
def sortE (g : Sg) (l r : T) : Int := if predS g l.head then (if r.head = 0 then 0 else 10) else if predS g r.head then 10 else 0
/-- The error of a literal. -/
def errL (g : Sg) (l r : T) : Int := if errT g l ≠ 0 then errT g l else if errT g r ≠ 0 then errT g r else sortE g l r
theorem errL_left {g : Sg} {l r : T} (h : errT g l ≠ 0) : errL g l r = errT g l := by unfold errL; rw [if_pos h]
theorem errL_right {g : Sg} {l r : T} (h1 : errT g l = 0) (h2 : errT g r ≠ 0) : errL g l r = errT g r := by
  unfold errL; rw [if_neg (fun e => e h1), if_pos h2]
theorem errL_sort {g : Sg} {l r : T} (h1 : errT g l = 0) (h2 : errT g r = 0) : errL g l r = sortE g l r := by
  unfold errL; rw [if_neg (fun e => e h1), if_neg (fun e => e h2)]
/-- The same sides, one way round or the other. -/
def sidB (l r l' r' : T) : Bool := (sameB l l' && sameB r r') || (sameB l r' && sameB r l')
theorem sidB_iff {l r l' r' : T} : sidB l r l' r' = true ↔ sidesT l r l' r' := by
  simp only [sidB, sidesT, Bool.or_eq_true, Bool.and_eq_true, sameB_iff]
def samL (n : Bool) (l r : T) (n' : Bool) (l' r' : T) : Bool := n == n' && sidB l r l' r'
def oppL (n : Bool) (l r : T) (n' : Bool) (l' r' : T) : Bool := n != n' && sidB l r l' r'
/-! ### An order -/
/-! ### Oriented -/
end Go.Proofs.Ytbdabdjpgmnejaa

/- Clauses: what the document says of them; plain facts. -/
namespace Go.Proofs.Ytbdabdjpgmnejaa
set_option linter.unusedVariables false
set_option linter.unusedSimpArgs false
open Go.RowKit
/-- All sides. -/
def sidesC (c : List Lt3) : List T := (c.map fun x => [x.l, x.r]).flatten
/-- The error of the first literal that has one. -/
def errs (g : Sg) : List Lt3 → Int
  | [] => 0
  | x :: c => if errL g x.l x.r ≠ 0 then errL g x.l x.r else errs g c
def errC (g : Sg) (c : List Lt3) : Int := if rightG g then (if 32 < c.length then 2 else errs g c) else 1
/-! ### The same literals -/
def sameLB (a b : Lt3) : Bool := samL a.neg a.l a.r b.neg b.l b.r
theorem sameLB_iff {a b : Lt3} : sameLB a b = true ↔ sameL a b := by
  unfold sameLB samL sameL
  rw [Bool.and_eq_true, beq_iff_eq, sidB_iff]
theorem sameLB_rep {a b : Lt3} : sameLB a b = (repL a == repL b) := by
  rw [Bool.eq_iff_iff, sameLB_iff, beq_iff_eq, repL_eq]
/-! ### Which one is greater -/
/-! ### What is not used -/
end Go.Proofs.Ytbdabdjpgmnejaa

/- Lat: a term equal to itself, by the reference. -/
namespace Go.Proofs.Ytbdabdjpgmnejaa
set_option linter.unusedVariables false
set_option linter.unusedSimpArgs false
open Go.RowKit
theorem sameAt_any (x y : T) (h : x = y) (hs : x.size ≤ 1000000000000) (n₀ : Nat) (a : Option Addr) (c : Nat) (a' : Option Addr) (c' : Nat) (w : World) (hn : n₀ ≤ w.heap.size) (hA : IsArgs n₀ w x.args a c) (hB : IsArgs n₀ w y.args a' c') :
    Calls Try.prog 16 #[tm x.head a x.args.length c, tm y.head a' y.args.length c'] w fun e w' => e = .returned (.bool true) ∧ Below w.heap.size w w' := by
  subst h
  refine (refSame_any x x hs hs n₀ a c a' c' w hn hA hB).mono fun e w' hh => ⟨?_, hh.2⟩
  rw [hh.1, T.cmp_self]; rfl
end Go.Proofs.Ytbdabdjpgmnejaa

/- Contract of Few (layer 5): rows of terms with at most 500 parts. -/
namespace Go.Proofs.Ytbdabdjpgmnejaa
set_option linter.unusedVariables false
set_option linter.unusedSimpArgs false
open Go.RowKit
def Few5I (ts : List T) (w : World) (n i : Value) (wr : World) : Prop := ∃ k m : Nat, k ≤ ts.length ∧ i = .int .i64 k ∧ n = .int .i64 (m : Int) ∧ m ≤ 1001 ∧ (m ≤ 500 → T.sizes (ts.take k) ≤ m) ∧ Below w.heap.size w wr
def Few5Post (ts : List T) (w : World) (e : Ending) (w' : World) : Prop := ∃ b : Bool, e = .returned (.bool b) ∧ (b = true → T.sizes ts ≤ 500) ∧ Below w.heap.size w w'
theorem sizes_take_succ {ts : List T} {k : Nat} {s : T} (h : ts[k]? = some s) : T.sizes (ts.take (k + 1)) = T.sizes (ts.take k) + s.size := by
  obtain ⟨hk, e⟩ := List.getElem?_eq_some_iff.1 h
  rw [List.take_succ_eq_append_getElem hk, e, T.sizes_append]
  simp [T.sizes]
set_option maxRecDepth 100000 in
set_option maxHeartbeats 1000000 in
theorem few5_any (ts : List T) (n₀ : Nat) (a : Option Addr) (c : Nat) (w : World) (hn : n₀ ≤ w.heap.size) (hA : IsArgs n₀ w ts a c) :
    Calls Try.prog 11 #[.slice a ts.length c] w (Few5Post ts w) := by
  have hl : ts.length ≤ c ∧ c ≤ maxLen := ⟨hA.1, hA.2.1⟩
  unfold maxLen at hl
  obtain ⟨hl1, hl2⟩ := hl
  have HA := Lib.hid hA
  clear hA
  go_enter Try.func11, Try.ntmps11
  go_wp2
  go_loopw [3, 4] (fun n i wr => Few5I ts w n i wr) (fun _ i _ => ts.length - (intOf i).toNat)
  case atStart => exact ⟨0, 0, Nat.zero_le _, rfl, rfl, by omega, by simp [T.sizes], Below.refl _ _⟩
  case round =>
    obtain ⟨k, m, hk, rfl, rfl, hm, hall, hB⟩ := hrel
    have HB := Lib.hid hB
    have HALL := Lib.hid hall
    have hbz := hB.size
    clear hB hall
    by_cases hlt : k < ts.length
    · have hk0 : (0 : Int) ≤ (k : Int) := Int.natCast_nonneg _
      have hk1 : (k : Int) < (ts.length : Int) := by omega
      by_cases hm60 : m ≤ 500
      · have hmi : (m : Int) ≤ 500 := by omega
        obtain ⟨b, o, s, a', c', rfl, hbn, hs, hswf, hc1, hc2, hA'⟩ := (HA.out.below (HB.out.mono hn)).elem (i := k) hlt
        have hbw : b < wr.heap.size := by omega
        have CN := Lib.hid (count_any s.size s (Nat.le_refl _) 500 n₀ a' c' wr (by omega) (by omega) hA')
        have HS := Lib.hid hs
        clear hs hswf hA'
        go_wp2_with fail
        refine CN.out.mono ?_
        rintro e w2 ⟨rfl, hb2⟩
        have HB2 := Lib.hid (HB.out.trans (hb2.mono hbz))
        obtain ⟨q, hq⟩ : ∃ q, min s.size (500 + 1) = q := ⟨_, rfl⟩
        rw [hq]
        have hq1 : q ≤ 501 := by omega
        have HQ := Lib.hid hq
        clear hb2 hq
        go_wp2
        go_roundw
        case rel =>
          refine ⟨k + 1, m + q, by omega, by go_num, by go_num, by omega, fun hle => ?_, HB2.out⟩
          rw [sizes_take_succ HS.out]
          have := HALL.out hm60
          have := HQ.out
          omega
        case measure => simp [intOf]; omega
      · have hmi : ¬ ((m : Int) ≤ 500) := by omega
        go_wp2
        go_ret
        exact ⟨false, by simp <;> omega, by simp, HB.out⟩
    · obtain rfl : k = ts.length := by omega
      go_wp2
      go_ret
      refine ⟨decide ((m : Int) ≤ 500), rfl, fun h => ?_, HB.out⟩
      have hm60 : m ≤ 500 := by have := of_decide_eq_true h; omega
      have := HALL.out hm60
      rw [List.take_length] at this
      omega
theorem mem_sizes {ts : List T} {t : T} (h : t ∈ ts) : t.size ≤ T.sizes ts := by
  obtain ⟨i, hi⟩ := List.getElem?_of_mem h
  have := T.size_lt_of_mem hi
  omega
end Go.Proofs.Ytbdabdjpgmnejaa

/- Contract of the reference's Vars. -/
namespace Go.Proofs.Ytbdabdjpgmnejaa
set_option linter.unusedVariables false
set_option linter.unusedSimpArgs false
open Go.RowKit
def ddStep (acc : List Int) (z : Int) : List Int := if acc.contains z then acc else acc ++ [z]
def dd (acc zs : List Int) : List Int := zs.foldl ddStep acc
theorem mem_ddStep {acc : List Int} {z y : Int} : y ∈ ddStep acc z ↔ y ∈ acc ∨ y = z := by
  unfold ddStep
  split
  · rename_i h
    have : z ∈ acc := by simpa using h
    constructor
    · exact .inl
    · rintro (h | rfl)
      · exact h
      · exact this
  · simp
theorem mem_dd {acc zs : List Int} {y : Int} : y ∈ dd acc zs ↔ y ∈ acc ∨ y ∈ zs := by
  induction zs generalizing acc with
  | nil => simp [dd]
  | cons z zs ih => rw [dd, List.foldl_cons]; rw [show zs.foldl ddStep (ddStep acc z) = dd (ddStep acc z) zs from rfl, ih, mem_ddStep]; simp [or_assoc]
theorem dd_snoc (acc zs : List Int) (z : Int) : dd acc (zs ++ [z]) = ddStep (dd acc zs) z := by simp [dd]
theorem dd_step (acc acc0 : List Int) (z : Int) : dd acc (ddStep acc0 z) = ddStep (dd acc acc0) z := by
  by_cases h : acc0.contains z
  · have h1 : ddStep acc0 z = acc0 := by rw [ddStep, if_pos h]
    have h2 : (dd acc acc0).contains z = true := by simpa using mem_dd.2 (.inr (by simpa using h))
    rw [h1, ddStep, if_pos h2]
  · have h1 : ddStep acc0 z = acc0 ++ [z] := by rw [ddStep, if_neg h]
    rw [h1, dd_snoc]
theorem dd_dd (acc acc0 zs : List Int) : dd acc (dd acc0 zs) = dd (dd acc acc0) zs := by
  induction zs generalizing acc0 with
  | nil => rfl
  | cons z zs ih =>
    show dd acc (dd (ddStep acc0 z) zs) = dd (ddStep (dd acc acc0) z) zs
    rw [ih, dd_step]
mutual
def T.rv : T → List Int
  | .node h ts => T.rvs (if h < 0 then [-1 - h] else []) ts
def T.rvs : List Int → List T → List Int
  | acc, [] => acc
  | acc, t :: ts => T.rvs (dd acc t.rv) ts
end
theorem varStep_dd (acc : List Int) (d : Nat) (h : Int) (ts : List T) : varStep acc (d, .node h ts) = dd acc (if h < 0 then [-1 - h] else []) := by
  show (if h < 0 then (if acc.contains (-1 - h) then acc else acc ++ [-1 - h]) else acc) = _
  by_cases q : h < 0
  · rw [if_pos q, if_pos q]; rfl
  · rw [if_neg q, if_neg q]; rfl
mutual
theorem T.subs_rv (t : T) (d : Nat) (acc : List Int) : (T.subs d t).foldl varStep acc = dd acc t.rv := by
  match t with
  | .node h ts =>
    rw [T.subs, List.foldl_cons, varStep_dd, T.subss_rv ts (d + 1), T.rv]
    exact (T.rvs_dd acc _ ts).symm
theorem T.subss_rv (ts : List T) (d : Nat) (acc : List Int) : (T.subss d ts).foldl varStep acc = T.rvs acc ts := by
  match ts with
  | [] => rfl
  | t :: ts => rw [T.subss, List.foldl_append, T.subs_rv t, T.subss_rv ts, T.rvs]
theorem T.rvs_dd (acc acc0 : List Int) (ts : List T) : dd acc (T.rvs acc0 ts) = T.rvs (dd acc acc0) ts := by
  match ts with
  | [] => rfl
  | t :: ts => rw [T.rvs, T.rvs, T.rvs_dd acc _ ts, dd_dd]
end
theorem T.rv_eq (t : T) : t.rv = varsOf (T.subs 1 t) := by
  have h : dd [] t.rv = t.rv := by
    match t with
    | .node h ts =>
      rw [T.rv, T.rvs_dd]
      congr 1
      split <;> simp [dd, ddStep]
  rw [varsOf, T.subs_rv, h]
end Go.Proofs.Ytbdabdjpgmnejaa

/- Contracts of the document's Terms, Few and Vars of clauses. -/
namespace Go.Proofs.Ytbdabdjpgmnejaa
set_option linter.unusedVariables false
set_option linter.unusedSimpArgs false
open Go.RowKit
/-- The literals of a row, without their addresses. -/
abbrev t3s (P : List LV) : List Lt3 := P.map LV.t3
theorem t3s_get {P : List LV} {k : Nat} {x : LV} (h : P[k]? = some x) : (t3s P)[k]? = some x.t3 := by simp [h]
theorem sidesC_snoc {P : List LV} {k : Nat} {x : LV} (h : P[k]? = some x) : sidesC (t3s (P.take (k + 1))) = sidesC (t3s (P.take k)) ++ [x.l, x.r] := by
  rw [List.take_add_one, h]
  simp [sidesC, LV.t3]
theorem sidesC_length (c : List Lt3) : (sidesC c).length = 2 * c.length := by
  induction c with
  | nil => rfl
  | cons x c ih => simp only [sidesC, List.map_cons, List.flatten_cons, List.length_append] at *; simp [ih]; omega
/-- A row of terms, whose blocks are none of the caller's business. -/
def TsPost (D : List T) (w : World) (e : Ending) (w' : World) : Prop := ∃ p c, e = .returned (.slice p D.length c) ∧ IsArgs w'.heap.size w' D p c ∧ Below w.heap.size w w'
def TmsI (P : List LV) (w : World) (ov i : Value) (wr : World) : Prop := ∃ k : Nat, k ≤ P.length ∧ i = .int .i64 k ∧ OA w.heap.size ov (sidesC (t3s (P.take k))) wr ∧ Below w.heap.size w wr
theorem Src.of_two {n₁ : Nat} {w : World} {x y : T} {e : Option Addr} {f : Nat} {e' : Option Addr} {f' : Nat} (hw : (Lit.int .i64 x.head).wf = true) (hw' : (Lit.int .i64 y.head).wf = true) (hA : IsArgs n₁ w x.args e f) (hA' : IsArgs n₁ w y.args e' f') (b : Nat)
    (h0 : w.cell? ⟨b, 0, none⟩ = some (.int .i64 x.head)) (h1 : w.cell? ⟨b, 1, none⟩ = some (.slice e x.args.length f)) (h2 : w.cell? ⟨b, 2, none⟩ = some (.int .i64 y.head)) (h3 : w.cell? ⟨b, 3, none⟩ = some (.slice e' y.args.length f')) : Src n₁ w [x, y] (some ⟨b, 0, none⟩) 2 := by
  refine ⟨(fun h => by cases h), [.int .i64 x.head, .slice e x.args.length f, .int .i64 y.head, .slice e' y.args.length f'], ⟨hw, rfl, ⟨e, f, rfl, isArgsp_lt.2 hA⟩, hw', rfl, ⟨e', f', rfl, isArgsp_lt.2 hA'⟩, trivial⟩, ?_, fun ad e' j u hj => ?_⟩
  · intro u hu; simp at hu; rcases hu with rfl | rfl | rfl | rfl <;> rfl
  · cases e'
    rw [addr_add, Nat.zero_add]
    match j, hj with
    | 0, hj => simp at hj; subst hj; exact h0
    | 1, hj => simp at hj; subst hj; exact h1
    | 2, hj => simp at hj; subst hj; exact h2
    | 3, hj => simp at hj; subst hj; exact h3
    | j + 4, hj => simp at hj
set_option maxRecDepth 100000 in
set_option maxHeartbeats 4000000 in
theorem terms10_any (P : List LV) (hl : P.length ≤ 1000000) (n₀ : Nat) (a : Option Addr) (c : Nat) (w : World) (hn : n₀ ≤ w.heap.size) (hP : IsCl n₀ w P a c) :
    Calls Try.prog 12 #[.slice a P.length c] w (TsPost (sidesC (t3s P)) w) := by
  have hlc : P.length ≤ c ∧ c ≤ maxLen := ⟨hP.1, hP.2.1⟩
  unfold maxLen at hlc
  obtain ⟨hl1, hl2⟩ := hlc
  have HP := Lib.hid (hP.mono hn)
  clear hP
  go_enter Try.func12, Try.ntmps12
  go_wp2
  go_loopw [3, 4] (fun ov i wr => TmsI P w ov i wr) (fun _ i _ => P.length - (intOf i).toNat)
  case atStart => exact ⟨0, Nat.zero_le _, rfl, OA.nil _ _, Below.refl _ _⟩
  case round =>
    obtain ⟨k, hk, rfl, hO, hB⟩ := hrel
    have HO := Lib.hid hO
    have HB := Lib.hid hB
    have hbz := hB.size
    clear hO hB
    by_cases hlt : k < P.length
    · obtain ⟨b, o, x, rfl, hb, hx, ⟨a0, a1, a2, a3, a4⟩, hxl⟩ := (HP.out.below HB.out).elem (i := k) hlt
      have HX := Lib.hid (And.intro hx hxl)
      have hk0 : (0 : Int) ≤ (k : Int) := Int.natCast_nonneg _
      have hk1 : (k : Int) < (P.length : Int) := by omega
      have hbw : b < wr.heap.size := by omega
      clear hx hxl a0
      go_wp2
      have hbd : Below wr.heap.size wr wr.drew := (Below.refl _ _).drew
      obtain ⟨xs, hown, hrv⟩ := HO.out
      have hln : (sidesC (t3s (P.take k))).length = 2 * k := by rw [sidesC_length]; simp; omega
      rw [hln] at hown
      have HRV := Lib.hid hrv
      have HOWN := Lib.hid hown
      have HBD := Lib.hid hbd
      have HLN := Lib.hid hln
      have hkm : 2 * k + 2 ≤ maxLen := by unfold maxLen; omega
      clear hrv hown hbd hln
      obtain ⟨i0, hi, hz0, hz1, hz2⟩ := info_parts infoTerm
      go_region_law (refine step_append_lies _ (by rfl) _ _ _ (by rfl) w.heap.size 28 i0 _ 2 32 Try.underlying26 hi hz0 hz1 hz2 rfl (by omega) u3 (2 * k) xs (by rfl) ((ownsRow_later HOWN.out HBD.out).alloc _) ⟨wr.drew.heap.size, 0, none⟩ 2 2 [.int .i64 x.l.head, .slice x.pa x.l.args.length x.ca, .int .i64 x.r.head, .slice x.pb x.r.args.length x.cb] (by rfl) (by rfl) (World.news_of_block (cs := #[.int .i64 x.l.head, .slice x.pa x.l.args.length x.ca, .int .i64 x.r.head, .slice x.pb x.r.args.length x.cb]) (t := 28) (fr := (0, 0)) (heap_alloc_new wr.drew _)) (by simp [Value.oneCell']) (by omega) hkm (by omega) (by simp; omega) (wr.drew.heap.size + 1) (by simp) ?_; intro g cap w8 hown8 hgrow8 hat8 hlt8)
      all_goals
        have hal : Below wr.heap.size wr (wr.drew.alloc (.cells #[.int .i64 x.l.head, .slice x.pa x.l.args.length x.ca, .int .i64 x.r.head, .slice x.pb x.r.args.length x.cb] 28)) := HBD.out.alloc HBD.out.size _
        have hg8 : Below w.heap.size wr w8 := (hal.mono hbz).trans ((Below.refl w.heap.size _).grown hgrow8 (by simp; omega) (fun q hq => (HOWN.out.lt q hq).1))
        have hxl := HX.out.2
        have HO5 := Lib.hid (show OA w.heap.size (.slice (some ⟨g, 0, none⟩) (2 * k + 2) cap) (sidesC (t3s (P.take k)) ++ [x.l, x.r]) w8 from
          ⟨xs ++ [.int .i64 x.l.head, .slice x.pa x.l.args.length x.ca, .int .i64 x.r.head, .slice x.pb x.r.args.length x.cb], by rw [List.length_append, HLN.out]; exact hown8, (RowVals.append (show RowVals (· < w.heap.size) wr [x.l, x.r] [.int .i64 x.l.head, .slice x.pa x.l.args.length x.ca, .int .i64 x.r.head, .slice x.pb x.r.args.length x.cb] from ⟨hxl.lw, rfl, ⟨_, _, rfl, isArgsp_lt.2 hxl.la⟩, hxl.rw, rfl, ⟨_, _, rfl, isArgsp_lt.2 hxl.ra⟩, trivial⟩) HRV.out).keep (fun b hb => hg8.block b hb) (fun _ x => x)⟩)
        have HB5 := Lib.hid (HB.out.trans hg8)
        clear hal hg8 hxl hown8 hgrow8 hat8 hlt8 hi hz0 hz1 hz2
        go_wp2
        go_roundw
        case rel => exact ⟨k + 1, by omega, by go_num, by rw [sidesC_snoc HX.out.1]; exact HO5.out, HB5.out⟩
        case measure => simp [intOf]; omega
    · obtain rfl : k = P.length := by omega
      have hO := HO.out
      rw [List.take_length] at hO
      obtain ⟨p, c', rfl, hR⟩ := hO.args hbz
      have HR := Lib.hid hR
      clear hR hO
      go_wp2
      go_ret
      exact ⟨p, c', rfl, HR.out, HB.out⟩
def Few10Post (P : List LV) (w : World) (e : Ending) (w' : World) : Prop := ∃ b : Bool, e = .returned (.bool b) ∧ (b = true → P.length ≤ 40 ∧ T.sizes (sidesC (t3s P)) ≤ 500) ∧ Below w.heap.size w w'
set_option maxRecDepth 100000 in
set_option maxHeartbeats 2000000 in
theorem few10_any (P : List LV) (n₀ : Nat) (a : Option Addr) (c : Nat) (w : World) (hn : n₀ ≤ w.heap.size) (hP : IsCl n₀ w P a c) :
    Calls Try.prog 4 #[.slice a P.length c] w (Few10Post P w) := by
  go_enter Try.func4, Try.ntmps4
  by_cases q : P.length ≤ 40
  · have q' : (P.length : Int) ≤ 40 := by omega
    have CT := Lib.hid (terms10_any P (by omega) n₀ a c w hn hP)
    clear hP
    go_wp2_with fail
    refine CT.out.mono ?_
    rintro e w2 ⟨p, c2, rfl, hA, hb⟩
    have CF := Lib.hid (few5_any (sidesC (t3s P)) w2.heap.size p c2 w2 (Nat.le_refl _) hA)
    have HB := Lib.hid hb
    clear hA hb
    go_wp2_with fail
    refine CF.out.mono ?_
    rintro e w3 ⟨b, rfl, hf, hb⟩
    have HF := Lib.hid hf
    have HB3 := Lib.hid (HB.out.trans (hb.mono HB.out.size))
    clear hf hb
    go_wp2
    go_ret
    exact ⟨b, rfl, fun h => ⟨q, HF.out h⟩, HB3.out⟩
  · have q' : decide ((P.length : Int) ≤ 40) = false := decide_eq_false (by omega)
    clear hP
    go_wp2
    go_ret
    exact ⟨false, rfl, (fun h => by cases h), Below.refl _ _⟩
end Go.Proofs.Ytbdabdjpgmnejaa
