/- QBp: joined of Lc, Fw5, St0, RVr, Tc. -/
import Derived.Test.YtpncmdlbmnmahaaGreatQBm
import Derived.Test.YtpncmdlbmnmahaaGreatQBj
import Derived.Test.YtpncmdlbmnmahaaGreatQBf
import Derived.Test.YtpncmdlbmnmahaaGreatQBc
import Derived.Test.YtpncmdlbmnmahaaGreatQBg
import Derived.Test.YtpncmdlbmnmahaaGreatQBh
import Derived.Test.YtpncmdlbmnmahaaGreatQBe
import Derived.Deep.CutRange
import Derived.Deep.AppendLies
import Derived.Deep.RegionLaw
/- Clauses in memory: rows of literals. -/
namespace Go.Proofs.YtpncmdlbmnmahaaGreat
set_option linter.unusedVariables false
set_option linter.unusedSimpArgs false
open Go.RowKit
abbrev LV.cells (x : LV) : List Value := [.bool x.n, .int .i64 x.l.head, .slice x.pa x.l.args.length x.ca, .int .i64 x.r.head, .slice x.pb x.r.args.length x.cb]
/-- The literal, without its addresses. -/
def LV.t3 (x : LV) : Lt3 := ⟨x.n, x.l, x.r⟩
/-- A literal's five cells at an address. -/
def At5 (W : World) (b o : Nat) (x : LV) : Prop :=
  W.cell? ⟨b, o, none⟩ = some (.bool x.n) ∧ W.cell? ⟨b, o + 1, none⟩ = some (.int .i64 x.l.head) ∧ W.cell? ⟨b, o + 2, none⟩ = some (.slice x.pa x.l.args.length x.ca) ∧ W.cell? ⟨b, o + 3, none⟩ = some (.int .i64 x.r.head) ∧ W.cell? ⟨b, o + 4, none⟩ = some (.slice x.pb x.r.args.length x.cb)
theorem At5.keep {W X : World} {b o : Nat} {x : LV} (h : At5 W b o x) (hc : ∀ i, X.cell? ⟨b, i, none⟩ = W.cell? ⟨b, i, none⟩) : At5 X b o x :=
  ⟨(hc _).trans h.1, (hc _).trans h.2.1, (hc _).trans h.2.2.1, (hc _).trans h.2.2.2.1, (hc _).trans h.2.2.2.2⟩
/-- A row of literals in memory. -/
def IsCl (n₀ : Nat) (W : World) (P : List LV) (a : Option Addr) (c : Nat) : Prop :=
  P.length ≤ c ∧ c ≤ maxLen ∧ (P = [] ∨ ∃ b o, a = some ⟨b, o, none⟩ ∧ b < n₀ ∧ ∀ (j : Nat) (x : LV), P[j]? = some x → At5 W b (o + j * 5) x ∧ IsLv n₀ W x)
theorem IsCl.below {n₀ : Nat} {w w' : World} {P : List LV} {a : Option Addr} {c : Nat} (h : IsCl n₀ w P a c) (hb : Below n₀ w w') : IsCl n₀ w' P a c := by
  obtain ⟨h1, h2, h3⟩ := h
  refine ⟨h1, h2, ?_⟩
  rcases h3 with h3 | ⟨b, o, h4, h5, h6⟩
  · exact .inl h3
  · exact .inr ⟨b, o, h4, h5, fun j x hx => ⟨(h6 j x hx).1.keep (fun i => hb.cell (p := ⟨b, i, none⟩) h5), (h6 j x hx).2.below hb⟩⟩
theorem IsCl.mono {n₀ n₁ : Nat} {w : World} {P : List LV} {a : Option Addr} {c : Nat} (h : IsCl n₀ w P a c) (hn : n₀ ≤ n₁) : IsCl n₁ w P a c := by
  obtain ⟨h1, h2, h3⟩ := h
  refine ⟨h1, h2, ?_⟩
  rcases h3 with h3 | ⟨b, o, h4, h5, h6⟩
  · exact .inl h3
  · exact .inr ⟨b, o, h4, by omega, fun j x hx => ⟨(h6 j x hx).1, (h6 j x hx).2.mono hn⟩⟩
theorem later_cl {W : World} {P : List LV} {a : Option Addr} {c : Nat} (h : IsCl W.heap.size W P a c) : Later (fun X => IsCl X.heap.size X P a c) W := fun X hX => (h.below hX).mono hX.size
theorem IsCl.elem {n₀ : Nat} {w : World} {P : List LV} {a : Option Addr} {c : Nat} (h : IsCl n₀ w P a c) {i : Nat} (hi : i < P.length) :
    ∃ (b o : Nat) (x : LV), a = some ⟨b, o, none⟩ ∧ b < n₀ ∧ P[i]? = some x ∧ At5 w b (o + i * 5) x ∧ IsLv n₀ w x := by
  obtain ⟨_, _, h3⟩ := h
  rcases h3 with rfl | ⟨b, o, rfl, h4, h5⟩
  · simp at hi
  · exact ⟨b, o, P[i], rfl, h4, List.getElem?_eq_getElem hi, h5 i _ (List.getElem?_eq_getElem hi)⟩
theorem IsCl.nil (n₀ : Nat) (w : World) (a : Option Addr) {c : Nat} (hc : c ≤ maxLen) : IsCl n₀ w [] a c := ⟨by simp, hc, .inl rfl⟩
/-! ### Rows of one's own -/
theorem infoLit : (Tryz.prog.info? 44).map (fun i => (i.zero, i.size, i.bytes)) = some (some (.agg #[.bool false, .int .i64 0, .slice none 0 0, .int .i64 0, .slice none 0 0]), 5, 72) := by kernel_rfl
/-- The sides of a literal, in blocks of a kind. -/
structure IsLvp (ok : Nat → Prop) (w : World) (x : LV) : Prop where
  lw : (Lit.int .i64 x.l.head).wf = true
  rw : (Lit.int .i64 x.r.head).wf = true
  la : IsArgsp ok w x.l.args x.pa x.ca
  ra : IsArgsp ok w x.r.args x.pb x.cb
theorem IsLvp.keep {ok ok' : Nat → Prop} {w w' : World} {x : LV} (h : IsLvp ok w x) (hb : ∀ b, ok b → w'.heap[b]? = w.heap[b]?) (hm : ∀ b, ok b → ok' b) : IsLvp ok' w' x := ⟨h.lw, h.rw, h.la.keep hb hm, h.ra.keep hb hm⟩
theorem isLvp_lt {n : Nat} {w : World} {x : LV} : IsLvp (· < n) w x ↔ IsLv n w x := ⟨fun h => ⟨h.lw, h.rw, isArgsp_lt.1 h.la, isArgsp_lt.1 h.ra⟩, fun h => ⟨h.lw, h.rw, isArgsp_lt.2 h.la, isArgsp_lt.2 h.ra⟩⟩
def lcells (P : List LV) : List Value := (P.map LV.cells).flatten
theorem lcells_length (P : List LV) : (lcells P).length = P.length * 5 := by
  induction P with
  | nil => rfl
  | cons x P ih => simp only [lcells, List.map_cons, List.flatten_cons, List.length_append] at *; simp [ih]; omega
theorem lcells_append (P Q : List LV) : lcells (P ++ Q) = lcells P ++ lcells Q := by simp [lcells]
theorem lcells_get {P : List LV} {j : Nat} {x : LV} (h : P[j]? = some x) : (lcells P)[j * 5]? = some (.bool x.n) ∧ (lcells P)[j * 5 + 1]? = some (.int .i64 x.l.head) ∧ (lcells P)[j * 5 + 2]? = some (.slice x.pa x.l.args.length x.ca) ∧ (lcells P)[j * 5 + 3]? = some (.int .i64 x.r.head) ∧ (lcells P)[j * 5 + 4]? = some (.slice x.pb x.r.args.length x.cb) := by
  induction P generalizing j with
  | nil => simp at h
  | cons y P ih =>
    cases j with
    | zero =>
      simp at h
      subst h
      exact ⟨rfl, rfl, rfl, rfl, rfl⟩
    | succ j =>
      have := ih (j := j) (by simpa using h)
      have e : ∀ i, (lcells (y :: P))[(j + 1) * 5 + i]? = (lcells P)[j * 5 + i]? := fun i => by
        simp only [lcells, List.map_cons, List.flatten_cons]
        rw [List.getElem?_append_right (by simp; omega)]
        congr 1
        simp
        omega
      exact ⟨(e 0).trans this.1, (e 1).trans this.2.1, (e 2).trans this.2.2.1, (e 3).trans this.2.2.2.1, (e 4).trans this.2.2.2.2⟩
/-- A row of literals of one's own. -/
def OL (ok : Nat → Prop) (n₁ : Nat) (v : Value) (P : List LV) (W : World) : Prop := W.ownsRow n₁ 44 5 v P.length (lcells P) ∧ ∀ x ∈ P, IsLvp ok W x
theorem OL.nil (ok : Nat → Prop) (n₁ : Nat) (W : World) : OL ok n₁ (.slice none 0 0) [] W := ⟨⟨by simp [lcells], .inl ⟨rfl, rfl⟩⟩, by simp⟩
theorem OL.kept {ok ok' : Nat → Prop} {n₁ : Nat} {v : Value} {P : List LV} {W W' : World} (h : OL ok n₁ v P W) (hk : ∀ g, v.ownBlock = some g → W'.heap[g]? = W.heap[g]?) (hb : ∀ b, ok b → W'.heap[b]? = W.heap[b]?) (hm : ∀ b, ok b → ok' b) : OL ok' n₁ v P W' :=
  ⟨Mm.ownsRow_kept h.1 hk, fun x hx => (h.2 x hx).keep hb hm⟩
theorem OL.block {ok : Nat → Prop} {n₁ : Nat} {v : Value} {P : List LV} {W : World} (h : OL ok n₁ v P W) {g : Nat} (hg : v.ownBlock = some g) : n₁ ≤ g ∧ g < W.heap.size := by
  obtain ⟨a, b, _⟩ := Mm.rowBlock h.1 hg
  exact ⟨a, b⟩
theorem OL.later {ok : Nat → Prop} {n₁ : Nat} {v : Value} {P : List LV} {W W' : World} (h : OL ok n₁ v P W) (ho : ∀ b, ok b → b < W.heap.size) (hb : Below W.heap.size W W') : OL ok n₁ v P W' :=
  h.kept (fun g hg => hb.block g (h.block hg).2) (fun b hk => hb.block b (ho b hk)) (fun _ x => x)
theorem OL.args {ok : Nat → Prop} {n₁ : Nat} {v : Value} {P : List LV} {W : World} (h : OL ok n₁ v P W) (ho : ∀ b, ok b → b < W.heap.size) : ∃ a c, v = .slice a P.length c ∧ IsCl W.heap.size W P a c := by
  have hbl := fun g (hg : v.ownBlock = some g) => h.block hg
  have hcells := fun g hg => h.1.cells (g := g) hg
  have hel : ∀ x ∈ P, IsLv W.heap.size W x := fun x hx => isLvp_lt.1 ((h.2 x hx).keep (fun _ _ => rfl) ho)
  rcases h.1.2 with ⟨rfl, h0⟩ | ⟨g, cap, cur, rfl, hb, hh, hn, hc, hs, _⟩
  · have : P = [] := List.eq_nil_of_length_eq_zero h0
    subst this
    exact ⟨none, 0, rfl, IsCl.nil _ _ _ (by simp [maxLen])⟩
  · refine ⟨_, cap, rfl, hn, hc, .inr ⟨g, 0, rfl, (hbl g rfl).2, fun j x hx => ⟨?_, hel x (List.mem_of_getElem? hx)⟩⟩⟩
    have hc5 : ∀ i u, (lcells P)[i]? = some u → W.cell? ⟨g, i, none⟩ = some u := fun i u hu => by
      have := hcells g rfl i u hu
      rw [addr_add] at this
      simpa using this
    obtain ⟨g0, g1, g2, g3, g4⟩ := lcells_get hx
    simp only [Nat.zero_add]
    exact ⟨hc5 _ _ g0, hc5 _ _ g1, hc5 _ _ g2, hc5 _ _ g3, hc5 _ _ g4⟩
/-- What is appended: literals whose cells lie at an address. -/
def SrcL (w : World) (Q : List LV) (a : Option Addr) (c : Nat) : Prop :=
  (a = none → c = 0 ∧ Q = []) ∧ ∀ ad, a = some ad → ∀ j u, (lcells Q)[j]? = some u → w.cell? (ad.add j) = some u
theorem SrcL.of_one {w : World} {x : LV} {b o : Nat} (h : At5 w b o x) : SrcL w [x] (some ⟨b, o, none⟩) 1 := by
  obtain ⟨c0, c1, c2, c3, c4⟩ := h
  refine ⟨(fun h => by cases h), fun ad e j u hj => ?_⟩
  cases e
  rw [addr_add]
  match j, hj with
  | 0, hj => simp [lcells] at hj; subst hj; exact c0
  | 1, hj => simp [lcells] at hj; subst hj; exact c1
  | 2, hj => simp [lcells] at hj; subst hj; exact c2
  | 3, hj => simp [lcells] at hj; subst hj; exact c3
  | 4, hj => simp [lcells] at hj; subst hj; exact c4
  | j + 5, hj => simp [lcells] at hj
theorem lcells_one (Q : List LV) : ∀ u ∈ lcells Q, u.oneCell' = true := by
  intro u hu
  simp only [lcells, List.mem_flatten, List.mem_map] at hu
  obtain ⟨l, ⟨x, _, rfl⟩, hu⟩ := hu
  simp at hu
  rcases hu with rfl | rfl | rfl | rfl | rfl <;> rfl
/-- append(v, ls...), where v is a row of one's own. -/
theorem wpList_append_ls {w : World} {ops : Array Oper} {rest : List Oper} {o : Oper} {a : Act} {Q : Exit → Act → World → Prop} (hgd : o.guard = none) (s x : Operand)
    (ho : o.op = .call { callee := .builtin .append, args := #[s, x], argTypes := #[23, 23] }) (ok : Nat → Prop) (n₁ : Nat) (v : Value) (P : List LV) (hs : a.eval s = v) (hO : OL ok n₁ v P w) (hn : n₁ ≤ w.heap.size)
    (ls : List LV) (a' : Option Addr) (c' : Nat) (hx : a.eval x = .slice a' ls.length c') (hS : SrcL w ls a' c') (hl : P.length + ls.length ≤ 10000000)
    (h : ∀ v' w', w'.ownsRow n₁ 44 5 v' (P ++ ls).length (lcells (P ++ ls)) → w.grownBy w' v.ownBlock → (v'.ownBlock = v.ownBlock ∨ v'.ownBlock = some w.heap.size) → wpList Tryz.prog ops Q rest (a.put o.dst v') w') : wpList Tryz.prog ops Q (o :: rest) a w := by
  obtain ⟨i0, hi, hz0, hz1, hz2⟩ := info_parts infoLit
  obtain ⟨hown, _⟩ := hO
  obtain ⟨hnone, hcl⟩ := hS
  cases a' with
  | none =>
    obtain ⟨rfl, rfl⟩ := hnone rfl
    refine wpList_append_own_none hgd s x 23 ho n₁ 44 i0 5 Tryz.underlying23 hi v P.length (lcells P) hs hown hx ?_
    exact h v w (by simpa using hown) ⟨rfl, rfl, rfl, Nat.le_refl _, fun _ _ _ => rfl⟩ (.inl rfl)
  | some ad =>
    have hnl : (lcells ls).length = ls.length * 5 := lcells_length ls
    obtain ⟨v', w', hr, h2, h3, _, h5⟩ := run_append_own_at (P := Tryz.prog) w n₁ 23 o.type 44 i0 (.agg #[.bool false, .int .i64 0, .slice none 0 0, .int .i64 0, .slice none 0 0]) 5 72 Tryz.underlying23 hi hz0 hz1 hz2 rfl (by decide) v P.length (lcells P) hown ad ls.length c' (lcells ls) hnl (hcl ad rfl) (lcells_one ls) (by unfold maxLen; omega) (by omega) hn
    refine wpList_plain hgd fun K hK => ?_
    unfold Oper.wp execOp
    simp only [ho, resolve, invoke, builtin, Sem.run_bind, Sem.run_pure, Result.andThen_ok, List.map_toArray, List.map_cons, List.map_nil, hs, hx, hr]
    exact hK _ _ (h v' w' (by rw [lcells_append]; simpa using h2) h3 h5)
/-- .. whose elements lie in blocks that the row doesn't touch. -/
theorem OL.append {ok : Nat → Prop} {n₁ : Nat} {v v' : Value} {P ls : List LV} {w w' : World} (h : OL ok n₁ v P w) (hr : w'.ownsRow n₁ 44 5 v' (P ++ ls).length (lcells (P ++ ls))) (hg : w.grownBy w' v.ownBlock) (ho : ∀ b, ok b → b < w.heap.size ∧ v.ownBlock ≠ some b) (hls : ∀ x ∈ ls, IsLvp ok w x) : OL ok n₁ v' (P ++ ls) w' := by
  have hb : ∀ b, ok b → w'.heap[b]? = w.heap[b]? := fun b hk => hg.block b (ho b hk).1 (fun e => (ho b hk).2 e.symm)
  refine ⟨hr, fun x hx => ?_⟩
  rcases List.mem_append.1 hx with hx | hx
  · exact (h.2 x hx).keep hb (fun _ x => x)
  · exact (hls x hx).keep hb (fun _ x => x)
end Go.Proofs.YtpncmdlbmnmahaaGreat

/- Contract of Few (layer 5): rows of terms with at most 500 parts. -/
namespace Go.Proofs.YtpncmdlbmnmahaaGreat
set_option linter.unusedVariables false
set_option linter.unusedSimpArgs false
open Go.RowKit
def Few5I (ts : List T) (w : World) (n i : Value) (wr : World) : Prop := ∃ k m : Nat, k ≤ ts.length ∧ i = .int .i64 k ∧ n = .int .i64 (m : Int) ∧ m ≤ 1001 ∧ (m ≤ 500 → T.sizes (ts.take k) ≤ m) ∧ Below w.heap.size w wr
def Few5Post (ts : List T) (w : World) (e : Ending) (w' : World) : Prop := ∃ b : Bool, e = .returned (.bool b) ∧ (b = true → T.sizes ts ≤ 500) ∧ Below w.heap.size w w'
theorem sizes_take_succ {ts : List T} {k : Nat} {s : T} (h : ts[k]? = some s) : T.sizes (ts.take (k + 1)) = T.sizes (ts.take k) + s.size := by
  obtain ⟨hk, e⟩ := List.getElem?_eq_some_iff.1 h
  rw [List.take_succ_eq_append_getElem hk, e, T.sizes_append]
  simp [T.sizes]
set_option maxRecDepth 100000 in
set_option maxHeartbeats 1000000 in
theorem few5_any (ts : List T) (n₀ : Nat) (a : Option Addr) (c : Nat) (w : World) (hn : n₀ ≤ w.heap.size) (hA : IsArgs n₀ w ts a c) :
    Calls Tryz.prog 39 #[.slice a ts.length c] w (Few5Post ts w) := by
  have hl : ts.length ≤ c ∧ c ≤ maxLen := ⟨hA.1, hA.2.1⟩
  unfold maxLen at hl
  obtain ⟨hl1, hl2⟩ := hl
  have HA := Lib.hid hA
  clear hA
  go_enter Tryz.func39, Tryz.ntmps39
  go_wp2
  go_loopw [3, 4] (fun n i wr => Few5I ts w n i wr) (fun _ i _ => ts.length - (intOf i).toNat)
  case atStart => exact ⟨0, 0, Nat.zero_le _, rfl, rfl, by omega, by simp [T.sizes], Below.refl _ _⟩
  case round =>
    obtain ⟨k, m, hk, rfl, rfl, hm, hall, hB⟩ := hrel
    have HB := Lib.hid hB
    have HALL := Lib.hid hall
    have hbz := hB.size
    clear hB hall
    by_cases hlt : k < ts.length
    · have hk0 : (0 : Int) ≤ (k : Int) := Int.natCast_nonneg _
      have hk1 : (k : Int) < (ts.length : Int) := by omega
      by_cases hm60 : m ≤ 500
      · have hmi : (m : Int) ≤ 500 := by omega
        obtain ⟨b, o, s, a', c', rfl, hbn, hs, hswf, hc1, hc2, hA'⟩ := (HA.out.below (HB.out.mono hn)).elem (i := k) hlt
        have hbw : b < wr.heap.size := by omega
        have CN := Lib.hid (count_any s.size s (Nat.le_refl _) 500 n₀ a' c' wr (by omega) (by omega) hA')
        have HS := Lib.hid hs
        clear hs hswf hA'
        go_wp2_with fail
        refine CN.out.mono ?_
        rintro e w2 ⟨rfl, hb2⟩
        have HB2 := Lib.hid (HB.out.trans (hb2.mono hbz))
        obtain ⟨q, hq⟩ : ∃ q, min s.size (500 + 1) = q := ⟨_, rfl⟩
        rw [hq]
        have hq1 : q ≤ 501 := by omega
        have HQ := Lib.hid hq
        clear hb2 hq
        go_wp2
        go_roundw
        case rel =>
          refine ⟨k + 1, m + q, by omega, by go_num, by go_num, by omega, fun hle => ?_, HB2.out⟩
          rw [sizes_take_succ HS.out]
          have := HALL.out hm60
          have := HQ.out
          omega
        case measure => simp [intOf]; omega
      · have hmi : ¬ ((m : Int) ≤ 500) := by omega
        go_wp2
        go_ret
        exact ⟨false, by simp <;> omega, by simp, HB.out⟩
    · obtain rfl : k = ts.length := by omega
      go_wp2
      go_ret
      refine ⟨decide ((m : Int) ≤ 500), rfl, fun h => ?_, HB.out⟩
      have hm60 : m ≤ 500 := by have := of_decide_eq_true h; omega
      have := HALL.out hm60
      rw [List.take_length] at this
      omega
theorem mem_sizes {ts : List T} {t : T} (h : t ∈ ts) : t.size ≤ T.sizes ts := by
  obtain ⟨i, hi⟩ := List.getElem?_of_mem h
  have := T.size_lt_of_mem hi
  omega
end Go.Proofs.YtpncmdlbmnmahaaGreat

/- Contract of the reference's In (and, by import, what stays when terms are put). -/
namespace Go.Proofs.YtpncmdlbmnmahaaGreat
set_option linter.unusedVariables false
set_option linter.unusedSimpArgs false
open Go.RowKit
def InI (n : Int) (zs : List Int) (w : World) (i : Value) (wr : World) : Prop := ∃ k : Nat, k ≤ zs.length ∧ i = .int .i64 k ∧ (∀ j, j < k → zs[j]? ≠ some n) ∧ wr = w
set_option maxRecDepth 100000 in
theorem in_any (n : Int) (zs : List Int) (n₀ : Nat) (a : Option Addr) (c : Nat) (w : World) (hn : n₀ ≤ w.heap.size) (hZ : IsIs n₀ w zs a c) :
    Calls Tryz.prog 31 #[.int .i64 n, .slice a zs.length c] w fun e w' => e = .returned (.bool (decide (n ∈ zs))) ∧ Below w.heap.size w w' := by
  have hl : zs.length ≤ c ∧ c ≤ maxLen := ⟨hZ.1, hZ.2.1⟩
  unfold maxLen at hl
  obtain ⟨hl1, hl2⟩ := hl
  have HZ := Lib.hid hZ
  clear hZ
  go_enter Tryz.func31, Tryz.ntmps31
  go_wp2
  go_loopw [5] (fun i wr => InI n zs w i wr) (fun i _ => zs.length - (intOf i).toNat)
  case atStart => exact ⟨0, Nat.zero_le _, rfl, fun j h => by omega, rfl⟩
  case round =>
    obtain ⟨k, hk, rfl, hno, rfl⟩ := hrel
    have HN := Lib.hid hno
    clear hno
    by_cases hlt : k < zs.length
    · obtain ⟨b, o, z, rfl, hbn, hz, hcz⟩ := HZ.out.elem (k := k) hlt
      have hk0 : (0 : Int) ≤ (k : Int) := Int.natCast_nonneg _
      have hk1 : (k : Int) < (zs.length : Int) := by omega
      have HZK := Lib.hid hz
      clear hz
      by_cases q : z = n
      · subst q
        have hd : decide (z ∈ zs) = true := by simpa using List.mem_of_getElem? HZK.out
        go_wp2
        go_ret
        exact ⟨by first | (rw [hd]; rfl) | rfl, Below.refl _ _⟩
      · have q' : (z == n) = false := by simpa using q
        go_wp2
        go_roundw
        case rel =>
          refine ⟨k + 1, by omega, by go_num, fun j hj => ?_, rfl⟩
          by_cases e : j = k
          · subst e
            rw [HZK.out]
            intro e
            exact q (Option.some.inj e)
          · exact HN.out j (by omega)
        case measure => simp [intOf]; omega
    · have hd : decide (n ∈ zs) = false := by
        simp only [decide_eq_false_iff_not]
        intro hm
        obtain ⟨j, hj⟩ := List.getElem?_of_mem hm
        exact HN.out j (by have := (List.getElem?_eq_some_iff.1 hj).1; omega) hj
      go_wp2
      go_ret
      exact ⟨by first | (rw [hd]; rfl) | rfl, Below.refl _ _⟩
end Go.Proofs.YtpncmdlbmnmahaaGreat

/- Contract of the reference's Vars. -/
namespace Go.Proofs.YtpncmdlbmnmahaaGreat
set_option linter.unusedVariables false
set_option linter.unusedSimpArgs false
open Go.RowKit
def ddStep (acc : List Int) (z : Int) : List Int := if acc.contains z then acc else acc ++ [z]
def dd (acc zs : List Int) : List Int := zs.foldl ddStep acc
theorem mem_ddStep {acc : List Int} {z y : Int} : y ∈ ddStep acc z ↔ y ∈ acc ∨ y = z := by
  unfold ddStep
  split
  · rename_i h
    have : z ∈ acc := by simpa using h
    constructor
    · exact .inl
    · rintro (h | rfl)
      · exact h
      · exact this
  · simp
theorem mem_dd {acc zs : List Int} {y : Int} : y ∈ dd acc zs ↔ y ∈ acc ∨ y ∈ zs := by
  induction zs generalizing acc with
  | nil => simp [dd]
  | cons z zs ih => rw [dd, List.foldl_cons]; rw [show zs.foldl ddStep (ddStep acc z) = dd (ddStep acc z) zs from rfl, ih, mem_ddStep]; simp [or_assoc]
theorem dd_snoc (acc zs : List Int) (z : Int) : dd acc (zs ++ [z]) = ddStep (dd acc zs) z := by simp [dd]
theorem dd_step (acc acc0 : List Int) (z : Int) : dd acc (ddStep acc0 z) = ddStep (dd acc acc0) z := by
  by_cases h : acc0.contains z
  · have h1 : ddStep acc0 z = acc0 := by rw [ddStep, if_pos h]
    have h2 : (dd acc acc0).contains z = true := by simpa using mem_dd.2 (.inr (by simpa using h))
    rw [h1, ddStep, if_pos h2]
  · have h1 : ddStep acc0 z = acc0 ++ [z] := by rw [ddStep, if_neg h]
    rw [h1, dd_snoc]
theorem dd_dd (acc acc0 zs : List Int) : dd acc (dd acc0 zs) = dd (dd acc acc0) zs := by
  induction zs generalizing acc0 with
  | nil => rfl
  | cons z zs ih =>
    show dd acc (dd (ddStep acc0 z) zs) = dd (ddStep (dd acc acc0) z) zs
    rw [ih, dd_step]
theorem dd_length (acc zs : List Int) : (dd acc zs).length ≤ acc.length + zs.length := by
  induction zs generalizing acc with
  | nil => simp [dd]
  | cons z zs ih =>
    have h1 := ih (ddStep acc z)
    have h2 : (ddStep acc z).length ≤ acc.length + 1 := by unfold ddStep; split <;> simp
    show (dd (ddStep acc z) zs).length ≤ _
    simp; omega
mutual
def T.rv : T → List Int
  | .node h ts => T.rvs (if h < 0 then [-1 - h] else []) ts
def T.rvs : List Int → List T → List Int
  | acc, [] => acc
  | acc, t :: ts => T.rvs (dd acc t.rv) ts
end
theorem T.rvs_snoc (acc : List Int) (ts : List T) (t : T) : T.rvs acc (ts ++ [t]) = dd (T.rvs acc ts) t.rv := by
  induction ts generalizing acc with
  | nil => simp [T.rvs]
  | cons x ts ih => rw [List.cons_append, T.rvs, ih, T.rvs]
theorem varStep_dd (acc : List Int) (d : Nat) (h : Int) (ts : List T) : varStep acc (d, .node h ts) = dd acc (if h < 0 then [-1 - h] else []) := by
  show (if h < 0 then (if acc.contains (-1 - h) then acc else acc ++ [-1 - h]) else acc) = _
  by_cases q : h < 0
  · rw [if_pos q, if_pos q]; rfl
  · rw [if_neg q, if_neg q]; rfl
mutual
theorem T.subs_rv (t : T) (d : Nat) (acc : List Int) : (T.subs d t).foldl varStep acc = dd acc t.rv := by
  match t with
  | .node h ts =>
    rw [T.subs, List.foldl_cons, varStep_dd, T.subss_rv ts (d + 1), T.rv]
    exact (T.rvs_dd acc _ ts).symm
theorem T.subss_rv (ts : List T) (d : Nat) (acc : List Int) : (T.subss d ts).foldl varStep acc = T.rvs acc ts := by
  match ts with
  | [] => rfl
  | t :: ts => rw [T.subss, List.foldl_append, T.subs_rv t, T.subss_rv ts, T.rvs]
theorem T.rvs_dd (acc acc0 : List Int) (ts : List T) : dd acc (T.rvs acc0 ts) = T.rvs (dd acc acc0) ts := by
  match ts with
  | [] => rfl
  | t :: ts => rw [T.rvs, T.rvs, T.rvs_dd acc _ ts, dd_dd]
end
theorem T.rv_eq (t : T) : t.rv = varsOf (T.subs 1 t) := by
  have h : dd [] t.rv = t.rv := by
    match t with
    | .node h ts =>
      rw [T.rv, T.rvs_dd]
      congr 1
      split <;> simp [dd, ddStep]
  rw [varsOf, T.subs_rv, h]
theorem T.rv_length (t : T) : t.rv.length ≤ t.size := by
  rw [T.rv_eq]
  have : ∀ (pre : List (Nat × T)) (acc : List Int), (pre.foldl varStep acc).length ≤ acc.length + pre.length := by
    intro pre
    induction pre with
    | nil => intro acc; simp
    | cons x pre ih => intro acc; rw [List.foldl_cons]; have h1 := ih (varStep acc x); have h2 := varStep_length acc x; simp; omega
  have := this (T.subs 1 t) []
  rw [T.subs_length] at this
  simpa [varsOf] using this
def RvPost (zs : List Int) (w : World) (e : Ending) (w' : World) : Prop := ∃ a c, e = .returned (.slice a zs.length c) ∧ IsIs w'.heap.size w' zs a c ∧ (∀ g o m, a = some ⟨g, o, m⟩ → w.heap.size ≤ g) ∧ Below w.heap.size w w'
theorem own_is {w : World} {base : Nat} {v : Value} {zs : List Int} (h : w.ownsRow base 3 1 v zs.length (zs.map (Value.int .i64))) : ∃ a c, v = .slice a zs.length c ∧ IsIs w.heap.size w zs a c ∧ ∀ g o m, a = some ⟨g, o, m⟩ → base ≤ g := by
  rcases h.2 with ⟨rfl, h0⟩ | ⟨g, cap, cur, rfl, hg, hh, hn, hc, r⟩
  · have : zs = [] := List.eq_nil_of_length_eq_zero h0
    subst this
    exact ⟨none, 0, rfl, ⟨by simp, by simp [maxLen], .inl rfl⟩, fun _ _ _ h => by cases h⟩
  · refine ⟨_, cap, rfl, ⟨hn, hc, .inr ⟨g, 0, rfl, (Array.getElem?_eq_some_iff.1 hh).1, fun j z hz => ?_⟩⟩, fun g' o' m' h => by cases h; exact hg⟩
    have hj : j < zs.length := (List.getElem?_eq_some_iff.1 hz).1
    rw [Nat.zero_add, h.cellAt j (by omega), List.getElem?_map, hz]
    rfl
def RvI (t : T) (acc0 : List Int) (w wL : World) (out i : Value) (wr : World) : Prop := ∃ k : Nat, k ≤ t.args.length ∧ i = .int .i64 k ∧ wr.ownsRow (w.heap.size + 1) 3 1 out (T.rvs acc0 (t.args.take k)).length ((T.rvs acc0 (t.args.take k)).map (Value.int .i64)) ∧ Below (w.heap.size + 1) wL wr
/-- A list stays where another row grows. -/
theorem is_grown {w w' : World} {zs : List Int} {a : Option Addr} {c : Nat} {row : Option Nat} (h : IsIs w.heap.size w zs a c) (hg : w.grownBy w' row) (hr : ∀ q, row = some q → ∀ g o m, a = some ⟨g, o, m⟩ → q ≠ g) : IsIs w'.heap.size w' zs a c := by
  obtain ⟨h1, h2, h3⟩ := h
  refine ⟨h1, h2, ?_⟩
  rcases h3 with h3 | ⟨b, o, rfl, hb, h3⟩
  · exact .inl h3
  · exact .inr ⟨b, o, rfl, Nat.lt_of_lt_of_le hb hg.size, fun j z hz => (World.cell?_of_block (a := ⟨b, o + j, none⟩) (hg.block b hb (fun e => hr b e.symm b o none rfl rfl))).trans (h3 j z hz)⟩
def RvJ (acc l : List Int) (w wL : World) (al : Option Addr) (cl : Nat) (out i : Value) (wr : World) : Prop := ∃ k : Nat, k ≤ l.length ∧ i = .int .i64 k ∧ wr.ownsRow (w.heap.size + 1) 3 1 out (dd acc (l.take k)).length ((dd acc (l.take k)).map (Value.int .i64)) ∧ Below (w.heap.size + 1) wL wr ∧ IsIs wr.heap.size wr l al cl ∧ (∀ q, out.ownBlock = some q → ∀ g o m, al = some ⟨g, o, m⟩ → q ≠ g)
set_option maxRecDepth 100000 in
set_option maxHeartbeats 4000000 in
theorem refVars_any : ∀ (N : Nat) (t : T), t.size ≤ N → t.size ≤ 1000000000000 → ∀ (n₀ : Nat) (a : Option Addr) (c : Nat) (w : World), n₀ ≤ w.heap.size → (Lit.int .i64 t.head).wf = true → IsArgs n₀ w t.args a c →
    Calls Tryz.prog 150 #[tm t.head a t.args.length c] w (RvPost t.rv w) := by
  intro N
  induction N with
  | zero => intro t ht; have := T.size_pos t; omega
  | succ N ih =>
    intro t ht hbig n₀ a c w hn hwf hA
    have IH := Lib.hid ih
    clear ih
    have hw := wf_low hwf
    have hlc : t.args.length ≤ c ∧ c ≤ maxLen := ⟨hA.1, hA.2.1⟩
    unfold maxLen at hlc
    obtain ⟨hl1, hl2⟩ := hlc
    have HA := Lib.hid hA
    clear hA hwf
    have HRV := Lib.hid (show t.rv = T.rvs (if t.head < 0 then [-1 - t.head] else []) t.args from by cases t; rfl)
    have HACCL := Lib.hid (show ∀ k, (T.rvs (if t.head < 0 then [-1 - t.head] else []) (t.args.take k)).length ≤ t.size from fun k => by
      have h1 := T.rv_length (.node t.head (t.args.take k))
      rw [T.rv] at h1
      refine Nat.le_trans h1 ?_
      have e1 := T.size_eq (.node t.head (t.args.take k))
      rw [T.args_node] at e1
      have e2 := T.size_eq t
      have h3 := T.sizes_append (t.args.take k) (t.args.drop k)
      rw [List.take_append_drop] at h3
      omega)
    obtain ⟨i0, hi, hz0, hz1, hz2⟩ := info_parts info3
    go_enter Tryz.func150, Tryz.ntmps150
    generalize hz : (if t.head < 0 then [-1 - t.head] else []) = acc0 at HRV HACCL
    have HZ := Lib.hid hz
    clear hz
    go_upto_if 9 with fail
    go_cut [3] from 9 (fun v3 wx => wx.ownsRow (w.heap.size + 1) 3 1 v3 acc0.length (acc0.map (Value.int .i64)) ∧ Below (w.heap.size + 1) (w.alloc (tmCells t.head a t.args.length c)) wx)
    case first =>
      by_cases hneg : t.head < 0
      · have hac := HZ.out
        rw [if_pos hneg] at hac
        subst hac
        go_wp2_with (at_builtin; refine stopHere ?_)
        refine Lib.hid ?_
        refine wpList_append_own _ rfl _ _ 30 rfl (w.heap.size + 1) 3 i0 (.int .i64 0) 1 8 Tryz.underlying30 hi hz0 hz1 hz2 rfl (by decide) _ 0 _ rfl (World.ownsRow_nil _ _ _ _) ⟨w.heap.size + 1, 0, none⟩ 1 1 [.int .i64 (-1 - t.head)] (by rfl) rfl (cell_one_at _ _ _ _ (by simp)) (by simp [Value.oneCell']) (by unfold maxLen; omega) (by omega) (by simp) ?_
        intro v' w2 hown2 hgr2 _
        have HO2 := Lib.hid hown2
        have HG2 := Lib.hid hgr2
        clear hown2 hgr2
        go_wp2
        go_meet
        exact ⟨HO2.out, (((Below.refl _ _).alloc (by simp) _).grown HG2.out (by simp) (fun q hq => by cases hq))⟩
      · have hac := HZ.out
        rw [if_neg hneg] at hac
        subst hac
        go_wp2
        go_meet
        exact ⟨World.ownsRow_nil _ _ _ _, Below.refl _ _⟩
    case rest =>
      obtain ⟨hown, hB0⟩ := hcut
      have HO0 := Lib.hid hown
      have HB0 := Lib.hid hB0
      have hz0' := hB0.size
      rw [heap_alloc_size] at hz0'
      clear hown hB0
      go_wp2
      go_loopw [3, 4, 5, 6] (fun out i _ _ wr => RvI t acc0 w (w.alloc (tmCells t.head a t.args.length c)) out i wr) (fun _ i _ _ _ => t.args.length - (intOf i).toNat)
      case atStart => exact ⟨0, Nat.zero_le _, rfl, HO0.out, HB0.out⟩
      case round =>
        obtain ⟨k, hk, rfl, hown, hB⟩ := hrel
        have HO := Lib.hid hown
        have HB := Lib.hid hB
        have hbz := hB.size
        rw [heap_alloc_size] at hbz
        have hbox : wr.cell? ⟨w.heap.size, 1, none⟩ = some (.slice a t.args.length c) := (hB.cell (p := ⟨w.heap.size, 1, none⟩) (by simp)).trans (by simp [go_sem])
        clear hown hB
        by_cases hlt : k < t.args.length
        · have hwb : Below n₀ w wr := ((Below.refl n₀ w).alloc hn _).trans (HB.out.mono (by omega))
          obtain ⟨b, o, s, a', c', rfl, hbn, hs, hswf, hc1, hc2, hA'⟩ := (HA.out.below hwb).elem (i := k) hlt
          have hsN : s.size ≤ N := by have := T.size_lt_of_mem hs; have := T.size_eq t; omega
          have hsb : s.size ≤ 1000000000000 := by have := T.size_lt_of_mem hs; have := T.size_eq t; omega
          have hk0 : (0 : Int) ≤ (k : Int) := Int.natCast_nonneg _
          have hk1 : (k : Int) < (t.args.length : Int) := by omega
          have hbw : b < wr.heap.size := by omega
          have HSS := Lib.hid hs
          have CALL := Lib.hid (IH.out s hsN hsb n₀ a' c' wr (by omega) hswf hA')
          clear hs hA' hwb hswf
          go_wp2_with fail
          refine CALL.out.mono ?_
          rintro e w2 ⟨al, cl, rfl, hL, hfr, hb2⟩
          obtain ⟨l, hl⟩ : ∃ l, s.rv = l := ⟨_, rfl⟩
          rw [hl] at hL ⊢
          have hlen : l.length ≤ 1000000000000 := by rw [← hl]; exact Nat.le_trans (T.rv_length s) hsb
          have HLV := Lib.hid hl
          have HL := Lib.hid hL
          have HNE := Lib.hid (show ∀ q, Value.ownBlock u3 = some q → ∀ g o m, al = some ⟨g, o, m⟩ → q ≠ g from fun q hq g o m e => by have h1 := (HO.out.lt q hq).2; have h2 := hfr g o m e; omega)
          have HOw := Lib.hid (ownsRow_later HO.out hb2)
          have HB2 := Lib.hid (HB.out.trans (hb2.mono (by omega)))
          have hzw2 := hb2.size
          obtain ⟨acc, hacc⟩ : ∃ acc, T.rvs acc0 (t.args.take k) = acc := ⟨_, rfl⟩
          rw [hacc] at HOw
          have HACC := Lib.hid hacc
          clear hl hL hb2 hacc CALL hfr
          have hll : l.length ≤ cl ∧ cl ≤ maxLen := ⟨HL.out.1, HL.out.2.1⟩
          unfold maxLen at hll
          obtain ⟨hll1, hll2⟩ := hll
          go_wp2
          go_loopw [3, 6] (fun out i wr => RvJ acc l w (w.alloc (tmCells t.head (some ⟨b, o, none⟩) t.args.length c)) al cl out i wr) (fun _ i _ => l.length - (intOf i).toNat)
          case atStart => exact ⟨0, Nat.zero_le _, rfl, HOw.out, HB2.out, HL.out, HNE.out⟩
          case round =>
            clear hbw hc1 hc2
            obtain ⟨j, hj, rfl, hown, hB, hlI, hne⟩ := hrel
            have HBj := Lib.hid hB
            have hbzj := hB.size
            rw [heap_alloc_size] at hbzj
            obtain ⟨acc1, hacc1⟩ : ∃ acc1, dd acc (l.take j) = acc1 := ⟨_, rfl⟩
            rw [hacc1] at hown
            have HACC1 := Lib.hid hacc1
            obtain ⟨av, cv, rfl, hI, _⟩ := own_is hown
            have HOj := Lib.hid hown
            have HIj := Lib.hid hI
            have HLI := Lib.hid hlI
            have HNEj := Lib.hid hne
            clear hB hown hI hlI hne hacc1
            by_cases hjt : j < l.length
            · have hj0 : (0 : Int) ≤ (j : Int) := Int.natCast_nonneg _
              have hj1 : (j : Int) < (l.length : Int) := by omega
              obtain ⟨b2, o2, z, rfl, hb2, hz, hc0⟩ := HLI.out.elem hjt
              have HZ2 := Lib.hid hz
              clear hz
              go_wp2_with fail
              refine (in_any z acc1 wr.heap.size av cv wr (Nat.le_refl _) HIj.out).mono ?_
              rintro e w3 ⟨rfl, hb3⟩
              have HO3 := Lib.hid (ownsRow_later HOj.out hb3)
              have HL3 := Lib.hid ((HLI.out.below hb3).mono hb3.size)
              have HB3 := Lib.hid (HBj.out.trans (hb3.mono (by omega)))
              have hzw3 := hb3.size
              have hc3 : w3.cell? ⟨b2, o2 + j, none⟩ = some (.int .i64 z) := (hb3.cell hb2).trans hc0
              have hb23 : b2 < w3.heap.size := by omega
              have hst : dd acc (l.take (j + 1)) = ddStep acc1 z := by
                rw [List.take_add_one, HZ2.out, Option.toList_some, dd_snoc, HACC1.out]
              have HST := Lib.hid hst
              have hal : acc1.length ≤ 2000000000000 := by
                rw [← HACC1.out, ← HACC.out]
                have h1 := dd_length (T.rvs acc0 (t.args.take k)) (l.take j)
                have h2 : (T.rvs acc0 (t.args.take k)).length ≤ 1000000000000 := Nat.le_trans (HACCL.out k) hbig
                have h3 : (l.take j).length ≤ l.length := by simp; omega
                omega
              clear hb3 hst hc0 hb2 HLI HOj HIj
              by_cases hin : z ∈ acc1
              · rw [decide_eq_true hin]
                have HIN := Lib.hid (show acc1.contains z = true from by simpa using hin)
                clear hin
                go_wp2
                go_roundw
                case rel =>
                  have e1 := HST.out
                  rw [ddStep, if_pos HIN.out] at e1
                  refine ⟨j + 1, by omega, by go_num, ?_, HB3.out, HL3.out, HNEj.out⟩
                  rw [e1]
                  exact HO3.out
                case measure => simp [intOf]; omega
              · rw [decide_eq_false hin]
                have HIN := Lib.hid (show ¬ acc1.contains z = true from by simpa using hin)
                clear hin
                go_wp2_with (at_builtin; refine stopHere ?_)
                refine Lib.hid ?_
                refine wpList_append_lies _ rfl _ _ 30 rfl (w.heap.size + 1) 3 i0 (.int .i64 0) 1 8 Tryz.underlying30 hi hz0 hz1 hz2 rfl (by decide) _ acc1.length _ rfl (HO3.out.alloc _) ⟨w3.heap.size, 0, none⟩ 1 1 [.int .i64 z] (by rfl) rfl (cell_one_at _ _ _ _ rfl) (by simp [Value.oneCell']) (by omega) (by unfold maxLen; omega) (by omega) (by simp; omega) (w3.heap.size + 1) (by simp) ?_
                intro g cap w4 hown4 hgr4 hor hlt4
                have HO4 := Lib.hid hown4
                have HB4 := Lib.hid ((HB3.out.alloc (by omega) _).grown hgr4 (by simp; omega) (fun q hq => (HO3.out.lt q hq).1))
                have HL4 := Lib.hid (is_grown ((HL3.out.below ((Below.refl _ _).alloc (Nat.le_refl _) _)).mono (by simp)) hgr4 HNEj.out)
                have HOR := Lib.hid hor
                clear hown4 hgr4 hor
                go_wp2
                go_roundw
                case rel =>
                  have e1 := HST.out
                  rw [ddStep, if_neg HIN.out] at e1
                  refine ⟨j + 1, by omega, by go_num, ?_, HB4.out, HL4.out, fun q hq g' o' m' e => ?_⟩
                  · rw [e1, List.map_append, List.length_append]
                    exact HO4.out
                  · cases e
                    rcases HOR.out with h | h
                    · exact HNEj.out q ((show (Value.slice av acc1.length cv).ownBlock = some g from h).trans hq) _ _ _ rfl
                    · have : g = q := by simpa [Value.ownBlock] using hq
                      omega
                case measure => simp [intOf]; omega
            · obtain rfl : j = l.length := by omega
              go_wp2
              go_roundw
              case rel =>
                refine ⟨k + 1, by omega, by go_num, ?_, HBj.out⟩
                have hs := HSS.out
                rw [List.take_add_one, hs, Option.toList_some, T.rvs_snoc, HACC.out, HLV.out]
                have e1 := HACC1.out
                rw [List.take_length] at e1
                rw [e1]
                exact HOj.out
              case measure => simp [intOf]; omega
        · obtain rfl : k = t.args.length := by omega
          obtain ⟨av, cv, rfl, hI, hfr⟩ := own_is HO.out
          have HI := Lib.hid hI
          have HFR := Lib.hid hfr
          clear hI hfr
          go_wp2
          go_ret
          have hrv := HRV.out
          rw [List.take_length] at *
          rw [hrv]
          exact ⟨av, cv, rfl, HI.out, fun g o m e => by have := HFR.out g o m e; omega, ((Below.refl _ w).alloc (Nat.le_refl _) _).trans (HB.out.mono (by omega))⟩
end Go.Proofs.YtpncmdlbmnmahaaGreat

/- Contracts of the document's Terms, Few and Vars of clauses. -/
namespace Go.Proofs.YtpncmdlbmnmahaaGreat
set_option linter.unusedVariables false
set_option linter.unusedSimpArgs false
open Go.RowKit
/-- The literals of a row, without their addresses. -/
abbrev t3s (P : List LV) : List Lt3 := P.map LV.t3
theorem t3s_get {P : List LV} {k : Nat} {x : LV} (h : P[k]? = some x) : (t3s P)[k]? = some x.t3 := by simp [h]
theorem sidesC_snoc {P : List LV} {k : Nat} {x : LV} (h : P[k]? = some x) : sidesC (t3s (P.take (k + 1))) = sidesC (t3s (P.take k)) ++ [x.l, x.r] := by
  rw [List.take_add_one, h]
  simp [sidesC, LV.t3]
theorem sidesC_length (c : List Lt3) : (sidesC c).length = 2 * c.length := by
  induction c with
  | nil => rfl
  | cons x c ih => simp only [sidesC, List.map_cons, List.flatten_cons, List.length_append] at *; simp [ih]; omega
/-- A row of terms, whose blocks are none of the caller's business. -/
def TsPost (D : List T) (w : World) (e : Ending) (w' : World) : Prop := ∃ p c, e = .returned (.slice p D.length c) ∧ IsArgs w'.heap.size w' D p c ∧ Below w.heap.size w w'
def TmsI (P : List LV) (w : World) (ov i : Value) (wr : World) : Prop := ∃ k : Nat, k ≤ P.length ∧ i = .int .i64 k ∧ OA w.heap.size ov (sidesC (t3s (P.take k))) wr ∧ Below w.heap.size w wr
set_option maxRecDepth 100000 in
set_option maxHeartbeats 4000000 in
theorem terms10_any (P : List LV) (hl : P.length ≤ 1000000) (n₀ : Nat) (a : Option Addr) (c : Nat) (w : World) (hn : n₀ ≤ w.heap.size) (hP : IsCl n₀ w P a c) :
    Calls Tryz.prog 40 #[.slice a P.length c] w (TsPost (sidesC (t3s P)) w) := by
  have hlc : P.length ≤ c ∧ c ≤ maxLen := ⟨hP.1, hP.2.1⟩
  unfold maxLen at hlc
  obtain ⟨hl1, hl2⟩ := hlc
  have HP := Lib.hid (hP.mono hn)
  clear hP
  go_enter Tryz.func40, Tryz.ntmps40
  go_wp2
  go_loopw [3, 4] (fun ov i wr => TmsI P w ov i wr) (fun _ i _ => P.length - (intOf i).toNat)
  case atStart => exact ⟨0, Nat.zero_le _, rfl, OA.nil _ _, Below.refl _ _⟩
  case round =>
    obtain ⟨k, hk, rfl, hO, hB⟩ := hrel
    have HO := Lib.hid hO
    have HB := Lib.hid hB
    have hbz := hB.size
    clear hO hB
    by_cases hlt : k < P.length
    · obtain ⟨b, o, x, rfl, hb, hx, ⟨a0, a1, a2, a3, a4⟩, hxl⟩ := (HP.out.below HB.out).elem (i := k) hlt
      have HX := Lib.hid (And.intro hx hxl)
      have hk0 : (0 : Int) ≤ (k : Int) := Int.natCast_nonneg _
      have hk1 : (k : Int) < (P.length : Int) := by omega
      have hbw : b < wr.heap.size := by omega
      clear hx hxl a0
      go_wp2
      have hbd : Below wr.heap.size wr wr.drew := (Below.refl _ _).drew
      obtain ⟨xs, hown, hrv⟩ := HO.out
      have hln : (sidesC (t3s (P.take k))).length = 2 * k := by rw [sidesC_length]; simp; omega
      rw [hln] at hown
      have HRV := Lib.hid hrv
      have HOWN := Lib.hid hown
      have HBD := Lib.hid hbd
      have HLN := Lib.hid hln
      have hkm : 2 * k + 2 ≤ maxLen := by unfold maxLen; omega
      clear hrv hown hbd hln
      obtain ⟨i0, hi, hz0, hz1, hz2⟩ := info_parts infoTerm
      go_region_law (refine step_append_lies _ (by rfl) _ _ _ (by rfl) w.heap.size 42 i0 _ 2 32 Tryz.underlying40 hi hz0 hz1 hz2 rfl (by omega) u3 (2 * k) xs (by rfl) ((ownsRow_later HOWN.out HBD.out).alloc _) ⟨wr.drew.heap.size, 0, none⟩ 2 2 [.int .i64 x.l.head, .slice x.pa x.l.args.length x.ca, .int .i64 x.r.head, .slice x.pb x.r.args.length x.cb] (by rfl) (by rfl) (World.news_of_block (cs := #[.int .i64 x.l.head, .slice x.pa x.l.args.length x.ca, .int .i64 x.r.head, .slice x.pb x.r.args.length x.cb]) (t := 42) (fr := (0, 0)) (heap_alloc_new wr.drew _)) (by simp [Value.oneCell']) (by omega) hkm (by omega) (by simp; omega) (wr.drew.heap.size + 1) (by simp) ?_; intro g cap w8 hown8 hgrow8 hat8 hlt8)
      all_goals
        have hal : Below wr.heap.size wr (wr.drew.alloc (.cells #[.int .i64 x.l.head, .slice x.pa x.l.args.length x.ca, .int .i64 x.r.head, .slice x.pb x.r.args.length x.cb] 42)) := HBD.out.alloc HBD.out.size _
        have hg8 : Below w.heap.size wr w8 := (hal.mono hbz).trans ((Below.refl w.heap.size _).grown hgrow8 (by simp; omega) (fun q hq => (HOWN.out.lt q hq).1))
        have hxl := HX.out.2
        have HO5 := Lib.hid (show OA w.heap.size (.slice (some ⟨g, 0, none⟩) (2 * k + 2) cap) (sidesC (t3s (P.take k)) ++ [x.l, x.r]) w8 from
          ⟨xs ++ [.int .i64 x.l.head, .slice x.pa x.l.args.length x.ca, .int .i64 x.r.head, .slice x.pb x.r.args.length x.cb], by rw [List.length_append, HLN.out]; exact hown8, (RowVals.append (show RowVals (· < w.heap.size) wr [x.l, x.r] [.int .i64 x.l.head, .slice x.pa x.l.args.length x.ca, .int .i64 x.r.head, .slice x.pb x.r.args.length x.cb] from ⟨hxl.lw, rfl, ⟨_, _, rfl, isArgsp_lt.2 hxl.la⟩, hxl.rw, rfl, ⟨_, _, rfl, isArgsp_lt.2 hxl.ra⟩, trivial⟩) HRV.out).keep (fun b hb => hg8.block b hb) (fun _ x => x)⟩)
        have HB5 := Lib.hid (HB.out.trans hg8)
        clear hal hg8 hxl hown8 hgrow8 hat8 hlt8 hi hz0 hz1 hz2
        go_wp2
        go_roundw
        case rel => exact ⟨k + 1, by omega, by go_num, by rw [sidesC_snoc HX.out.1]; exact HO5.out, HB5.out⟩
        case measure => simp [intOf]; omega
    · obtain rfl : k = P.length := by omega
      have hO := HO.out
      rw [List.take_length] at hO
      obtain ⟨p, c', rfl, hR⟩ := hO.args hbz
      have HR := Lib.hid hR
      clear hR hO
      go_wp2
      go_ret
      exact ⟨p, c', rfl, HR.out, HB.out⟩
def Few10Post (P : List LV) (w : World) (e : Ending) (w' : World) : Prop := ∃ b : Bool, e = .returned (.bool b) ∧ (b = true → P.length ≤ 40 ∧ T.sizes (sidesC (t3s P)) ≤ 500) ∧ Below w.heap.size w w'
set_option maxRecDepth 100000 in
set_option maxHeartbeats 2000000 in
theorem few10_any (P : List LV) (n₀ : Nat) (a : Option Addr) (c : Nat) (w : World) (hn : n₀ ≤ w.heap.size) (hP : IsCl n₀ w P a c) :
    Calls Tryz.prog 21 #[.slice a P.length c] w (Few10Post P w) := by
  go_enter Tryz.func21, Tryz.ntmps21
  by_cases q : P.length ≤ 40
  · have q' : (P.length : Int) ≤ 40 := by omega
    have CT := Lib.hid (terms10_any P (by omega) n₀ a c w hn hP)
    clear hP
    go_wp2_with fail
    refine CT.out.mono ?_
    rintro e w2 ⟨p, c2, rfl, hA, hb⟩
    have CF := Lib.hid (few5_any (sidesC (t3s P)) w2.heap.size p c2 w2 (Nat.le_refl _) hA)
    have HB := Lib.hid hb
    clear hA hb
    go_wp2_with fail
    refine CF.out.mono ?_
    rintro e w3 ⟨b, rfl, hf, hb⟩
    have HF := Lib.hid hf
    have HB3 := Lib.hid (HB.out.trans (hb.mono HB.out.size))
    clear hf hb
    go_wp2
    go_ret
    exact ⟨b, rfl, fun h => ⟨q, HF.out h⟩, HB3.out⟩
  · have q' : decide ((P.length : Int) ≤ 40) = false := decide_eq_false (by omega)
    clear hP
    go_wp2
    go_ret
    exact ⟨false, rfl, (fun h => by cases h), Below.refl _ _⟩
end Go.Proofs.YtpncmdlbmnmahaaGreat
