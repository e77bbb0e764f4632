/- The invariants of Copy's two loops, and their steps in memory. -/
import Derived.Test.YtfkaecjdncjggaaNt
namespace Go.Proofs.Ytfkaecjdncjggaa
set_option linter.unusedVariables false
set_option linter.unusedSimpArgs false
open Go.RowKit

theorem isRow_setCell {n₀ : Nat} {w : World} {b p : Nat} {u : Value} (hb : n₀ ≤ b) : (ts : List T) → ∀ {o : Nat}, p < o → IsRow n₀ w ts b o → IsRow n₀ (w.setCell ⟨b, p, none⟩ u) ts b o
  | [], o, _, _ => by simp [IsRow]
  | .node h us :: ts, o, hp, hr => by
    simp only [IsRow, IsT] at hr ⊢
    obtain ⟨⟨h1, h2, a, c, h3, h4, h5, h6⟩, hr⟩ := hr
    have hk : ∀ k, k < n₀ → (w.setCell ⟨b, p, none⟩ u).heap[k]? = w.heap[k]? := fun k hk => Below.heap_setCell _ _ _ _ (by simp; omega)
    refine ⟨⟨h1, ?_, a, c, ?_, h4, h5, ?_⟩, isRow_setCell hb ts (by omega) hr⟩
    · rw [World.cell?_setCell_other _ _ _ _ (by intro e; simp at e <;> omega)]; exact h2
    · rw [World.cell?_setCell_other _ _ _ _ (by intro e; simp at e <;> omega)]; exact h3
    · exact h6.imp id fun ⟨b', o', e, hl, hr⟩ => ⟨b', o', e, hl, (isRowp_lt us).1 (IsRowp.keep hk (fun _ h => h) us (hk b' hl) ((isRowp_lt us).2 hr))⟩

theorem isRow_blocks {n₀ : Nat} {w w' : World} {ts : List T} {b o : Nat} (h : ∀ k, k < n₀ → w'.heap[k]? = w.heap[k]?) (hb : w'.heap[b]? = w.heap[b]?) (hr : IsRow n₀ w ts b o) : IsRow n₀ w' ts b o :=
  (isRowp_lt ts).1 (IsRowp.keep h (fun _ h => h) ts hb ((isRowp_lt ts).2 hr))

theorem ownsRow_setCell_ne {w : World} {base : Nat} {e : TypeId} {size : Nat} {v : Value} {n : Nat} {xs : List Value} (h : w.ownsRow base e size v n xs) {b o : Nat} (hne : v.ownBlock ≠ some b) (u : Value) : (w.setCell ⟨b, o, none⟩ u).ownsRow base e size v n xs :=
  h.kept (row := some b) ⟨rfl, rfl, rfl, by simp, fun k hk hn => Below.heap_setCell _ _ _ _ (fun e => hn (by rw [e]))⟩ (.inr hne)

theorem ownsRow_pop {w : World} {base : Nat} {e : TypeId} {g n cap : Nat} {xs : List Value} {x : Value} (h : w.ownsRow base e 1 (.slice (some ⟨g, 0, none⟩) (n + 1) cap) (n + 1) (xs ++ [x])) : w.ownsRow base e 1 (.slice (some ⟨g, 0, none⟩) n cap) n xs := by
  obtain ⟨h1, h2⟩ := h
  refine ⟨by simp at h1; omega, ?_⟩
  rcases h2 with ⟨h2, _⟩ | ⟨g', cap', cur, h2, h3, h4, h5, h6, h7, h8⟩
  · cases h2
  · cases h2
    refine .inr ⟨g, cap, cur, rfl, h3, h4, by omega, h6, h7, ?_⟩
    have : (cur.toList.take ((n + 1) * 1)).take (n * 1) = (xs ++ [x]).take (n * 1) := by rw [h8]
    rw [List.take_take] at this
    rw [show min (n * 1) ((n + 1) * 1) = n * 1 from by omega] at this
    rw [this, List.take_append_of_le_length (by simp at h1; omega), List.take_of_length_le (by simp at h1; omega)]

abbrev Ents := List (Nat × Nat × List T)
def stkVals (S : Ents) : List Value := S.map fun e => .slice (some ⟨e.1, 0, none⟩) e.2.2.length e.2.1
def sumS (S : Ents) : Nat := (S.map fun e => T.sizes e.2.2).sum
def Ent (n₀ lo : Nat) (w : World) (e : Nat × Nat × List T) : Prop := lo ≤ e.1 ∧ Blk w e.1 ∧ IsRow n₀ w e.2.2 e.1 0 ∧ e.2.2.length ≤ e.2.1 ∧ e.2.1 ≤ maxLen ∧ e.2.2 ≠ []
def blks (S : Ents) : List Nat := S.map (·.1)
def oldS (S : Ents) (b j : Nat) : Prop := ∃ e ∈ S, e.1 = b ∧ j < e.2.2.length
theorem oldS_blks {S : Ents} {b j : Nat} (h : oldS S b j) : b ∈ blks S := by obtain ⟨e, he, rfl, _⟩ := h; exact List.mem_map_of_mem (f := (·.1)) he

structure CpS (n₀ : Nat) (w w2 : World) (t : T) (st : Value) (S : Ents) (wr : World) (old : Nat → Nat → Prop) : Prop where
  own : wr.ownsRow (w.heap.size + 3) 29 1 st S.length (stkVals S)
  ents : ∀ e ∈ S, Ent n₀ (w.heap.size + 2) wr e
  nodup : (blks S).Nodup
  root : Blk wr (w.heap.size + 2)
  row : NRow n₀ (w.heap.size + 2) wr old [t] (w.heap.size + 2) 0
  below : Below (w.heap.size + 2) w2 wr

theorem Blk.not_own {w : World} {b base size n : Nat} {v : Value} {xs : List Value} (h : Blk w b) (ho : w.ownsRow base 29 size v n xs) : v.ownBlock ≠ some b := by
  intro e
  rcases ho.2 with ⟨rfl, _⟩ | ⟨g, cap, cur, rfl, _, hh, _⟩
  · cases e
  · simp [Value.ownBlock] at e
    subst e
    obtain ⟨cur', h⟩ := h
    rw [hh] at h
    simp at h

/-- A round's first half: the list's element is cloned and stored. -/
theorem cps_clone {n₀ : Nat} {w w2 : World} {t s : T} {st : Value} {S : Ents} {wr w4 : World} {old : Nat → Nat → Prop} {g k : Nat} {a2 : Option Addr} {c2 : Nat} (h : CpS n₀ w w2 t st S wr old) (hn : n₀ ≤ w.heap.size) (hlo : w.heap.size + 2 ≤ g) (hbg : Blk wr g) (hgS : g ∉ blks S)
    (hold : old g k) (hs : IsT n₀ wr s g (k * 2)) (hB : Below wr.heap.size wr w4) (hN : NewRow n₀ wr.heap.size w4 s.args a2 c2) (hsz : w.heap.size + 2 ≤ wr.heap.size) :
    CpS n₀ w w2 t st S (w4.setCell ⟨g, k * 2 + 1, none⟩ (.slice a2 s.args.length c2)) (oldStep old g k a2 s.args) := by
  have hne := hbg.not_own h.own
  refine ⟨ownsRow_setCell_ne (ownsRow_later h.own hB) hne _, ?_, h.nodup, (h.root.block (hB.block _ h.root.lt)).setCell, ?_, ?_⟩
  · intro e he
    obtain ⟨h1, h2, h3, h4⟩ := h.ents e he
    have hneq : e.1 ≠ g := fun hh => hgS (hh ▸ List.mem_map_of_mem (f := (·.1)) he)
    have hbk : (w4.setCell ⟨g, k * 2 + 1, none⟩ (.slice a2 s.args.length c2)).heap[e.1]? = wr.heap[e.1]? := (Below.heap_setCell _ _ _ _ hneq).trans (hB.block _ h2.lt)
    exact ⟨h1, h2.block hbk, isRow_blocks (fun k hk => (Below.heap_setCell _ _ _ _ (by simp; omega)).trans (hB.block k (by omega))) hbk h3, h4⟩
  · exact nrow_step hold (by omega) hbg.lt (by omega) hB (by omega) hs hN rfl [t] h.row
  · exact (h.below.trans (hB.mono hsz)).setCell (p := ⟨g, k * 2 + 1, none⟩) hlo _

/-- A round's second half: a new list is put on the stack. -/
theorem cps_push {n₀ : Nat} {w w2 : World} {t : T} {st st' : Value} {S : Ents} {w5 w7 : World} {old old' : Nat → Nat → Prop} {us : List T} {g2 c2 : Nat} {ob : Obj} (h : CpS n₀ w w2 t st S w5 old) (hn : n₀ ≤ w.heap.size) (hsz : w.heap.size + 3 ≤ w5.heap.size)
    (hE : Ent n₀ (w.heap.size + 2) w5 (g2, c2, us)) (hg2 : g2 ∉ blks S) (hown : w7.ownsRow (w.heap.size + 3) 29 1 st' (S.length + 1) (stkVals S ++ [.slice (some ⟨g2, 0, none⟩) us.length c2])) (hgr : (w5.alloc ob).grownBy w7 st.ownBlock)
    (hold : ∀ b j, old b j ↔ old' b j) : CpS n₀ w w2 t st' (S ++ [(g2, c2, us)]) w7 old' ∧ (∀ b, (b < n₀ ∨ Blk w5 b) → w7.heap[b]? = w5.heap[b]?) ∧ w5.heap.size ≤ w7.heap.size := by
  have hlt := h.own.lt
  have hkeep : ∀ b, (b < n₀ ∨ Blk w5 b) → w7.heap[b]? = w5.heap[b]? := by
    intro b hb
    have hbs : b < w5.heap.size := by rcases hb with hb | hb; omega; exact hb.lt
    have hne : st.ownBlock ≠ some b := by
      rcases hb with hb | hb
      · intro e; have := hlt b e; omega
      · exact hb.not_own h.own
    exact (hgr.block b (by simp; omega) (fun e => hne e.symm)).trans (Below.heap_alloc _ _ _ hbs)
  have hent : ∀ e, Ent n₀ (w.heap.size + 2) w5 e → Ent n₀ (w.heap.size + 2) w7 e := fun e ⟨h1, h2, h3, h4⟩ =>
    ⟨h1, h2.block (hkeep _ (.inr h2)), isRow_blocks (fun k hk => hkeep k (.inl hk)) (hkeep _ (.inr h2)) h3, h4⟩
  refine ⟨⟨by simpa [stkVals] using hown, ?_, ?_, h.root.block (hkeep _ (.inr h.root)), nrow_iff hold [t] (nrow_below hkeep [t] h.root h.row), ?_⟩, hkeep, ?_⟩
  · intro e he
    rcases List.mem_append.1 he with he | he
    · exact hent e (h.ents e he)
    · rw [List.mem_singleton.1 he]; exact hent _ hE
  · simp only [blks, List.map_append, List.map_cons, List.map_nil]
    rw [List.nodup_append]
    refine ⟨h.nodup, by simp, ?_⟩
    intro a ha b hb
    simp at hb
    subst hb
    intro e
    subst e
    exact hg2 ha
  · exact (h.below.alloc (by omega) ob).grown hgr (by simp; omega) (fun k hk => by have := hlt k hk; omega)
  · have := hgr.size; simp at this; omega

def CpIn (n₀ : Nat) (w w2 : World) (t : T) (g : Nat) (ts : List T) (M : Nat) (st i : Value) (wr : World) : Prop :=
  ∃ (k : Nat) (S : Ents), k ≤ ts.length ∧ i = .int .i64 k ∧ CpS n₀ w w2 t st S wr (fun b j => oldS S b j ∨ (b = g ∧ k ≤ j ∧ j < ts.length)) ∧ g ∉ blks S ∧ Blk wr g ∧ IsRow n₀ wr (ts.drop k) g (k * 2) ∧ sumS S + T.sizes (ts.drop k) + k ≤ M ∧ w.heap.size + 4 ≤ wr.heap.size

theorem sumS_snoc (S : Ents) (e : Nat × Nat × List T) : sumS (S ++ [e]) = sumS S + T.sizes e.2.2 := by simp [sumS]
theorem length_le_sumS {n₀ lo : Nat} {w : World} (S : Ents) (h : ∀ e ∈ S, Ent n₀ lo w e) : S.length ≤ sumS S := by
  induction S with
  | nil => simp [sumS]
  | cons e S ih =>
    have h1 := ih (fun e he => h e (List.mem_cons_of_mem _ he))
    have h2 := (h e (List.mem_cons_self ..)).2.2.2.2.2
    have h3 := T.sizes_ge_length e.2.2
    have h4 : 0 < e.2.2.length := List.length_pos_iff.2 h2
    simp [sumS] at h1 ⊢
    omega

theorem cpin_nil {n₀ : Nat} {w w2 : World} {t s : T} {st : Value} {S : Ents} {wr w4 : World} {g k M : Nat} {ts : List T} {a2 : Option Addr} {c2 : Nat} (h : CpS n₀ w w2 t st S wr (fun b j => oldS S b j ∨ (b = g ∧ k ≤ j ∧ j < ts.length))) (hn : n₀ ≤ w.heap.size) (hlo : w.heap.size + 2 ≤ g) (hbg : Blk wr g) (hgS : g ∉ blks S)
    (hs : ts[k]? = some s) (hrow : IsRow n₀ wr (ts.drop k) g (k * 2)) (hB : Below wr.heap.size wr w4) (hN : NewRow n₀ wr.heap.size w4 s.args a2 c2) (hsz : w.heap.size + 4 ≤ wr.heap.size) (hM : sumS S + T.sizes (ts.drop k) + k ≤ M) (hnil : s.args = []) :
    CpIn n₀ w w2 t g ts M st (.int .i64 ((k + 1 : Nat) : Int)) (w4.setCell ⟨g, k * 2 + 1, none⟩ (.slice a2 s.args.length c2)) := by
  obtain ⟨hk, _⟩ := List.getElem?_eq_some_iff.1 hs
  have hst : IsT n₀ wr s g (k * 2) := by
    have := hrow.at (i := 0) (t := s) (by simpa using hs)
    simpa using this
  have hd := T.sizes_drop hs
  have hsz2 := T.size_eq s
  have h5 := cps_clone h hn hlo hbg hgS (.inr ⟨rfl, Nat.le_refl _, hk⟩) hst hB hN (by omega)
  refine ⟨k + 1, S, by omega, rfl, ⟨h5.own, h5.ents, h5.nodup, h5.root, nrow_iff ?_ [t] h5.row, h5.below⟩, hgS, (hbg.block (hB.block _ hbg.lt)).setCell, ?_, by omega, by have := hB.size; simp; omega⟩
  · intro b j
    unfold oldStep
    rw [hnil]
    constructor
    · rintro (⟨h1 | h1, h2⟩ | h1)
      · exact .inl h1
      · exact .inr ⟨h1.1, by have : j ≠ k := fun e => h2 ⟨h1.1, e⟩; omega, h1.2.2⟩
      · simp at h1
    · rintro (h1 | h1)
      · exact .inl ⟨.inl h1, fun e => hgS (e.1 ▸ oldS_blks h1)⟩
      · exact .inl ⟨.inr ⟨h1.1, by omega, h1.2.2⟩, fun e => by omega⟩
  · have hr : IsRow n₀ wr (ts.drop (k + 1)) g ((k + 1) * 2) := by
      have := hrow.drop 1 (by simp; omega)
      rw [List.drop_drop, show k * 2 + 1 * 2 = (k + 1) * 2 from by omega] at this
      exact this
    exact isRow_setCell (by omega) _ (by omega) (isRow_blocks (fun k hk => hB.block k (by omega)) (hB.block _ hbg.lt) hr)

theorem cpin_push {n₀ : Nat} {w w2 : World} {t s : T} {st st' : Value} {S : Ents} {wr w4 w7 : World} {g k M : Nat} {ts : List T} {g2 c2 : Nat} {ob : Obj} (h : CpS n₀ w w2 t st S wr (fun b j => oldS S b j ∨ (b = g ∧ k ≤ j ∧ j < ts.length))) (hn : n₀ ≤ w.heap.size) (hlo : w.heap.size + 2 ≤ g) (hbg : Blk wr g) (hgS : g ∉ blks S)
    (hs : ts[k]? = some s) (hrow : IsRow n₀ wr (ts.drop k) g (k * 2)) (hB : Below wr.heap.size wr w4) (hN : NewRow n₀ wr.heap.size w4 s.args (some ⟨g2, 0, none⟩) c2) (hsz : w.heap.size + 4 ≤ wr.heap.size) (hM : sumS S + T.sizes (ts.drop k) + k ≤ M) (hnil : s.args ≠ [])
    (hown : w7.ownsRow (w.heap.size + 3) 29 1 st' (S.length + 1) (stkVals S ++ [.slice (some ⟨g2, 0, none⟩) s.args.length c2])) (hgr : ((w4.setCell ⟨g, k * 2 + 1, none⟩ (.slice (some ⟨g2, 0, none⟩) s.args.length c2)).alloc ob).grownBy w7 st.ownBlock) :
    CpIn n₀ w w2 t g ts M st' (.int .i64 ((k + 1 : Nat) : Int)) w7 := by
  obtain ⟨hk, _⟩ := List.getElem?_eq_some_iff.1 hs
  have hst : IsT n₀ wr s g (k * 2) := by
    have := hrow.at (i := 0) (t := s) (by simpa using hs)
    simpa using this
  have hd := T.sizes_drop hs
  have hsz2 := T.size_eq s
  have h5 := cps_clone h hn hlo hbg hgS (.inr ⟨rfl, Nat.le_refl _, hk⟩) hst hB hN (by omega)
  have hB4 := hB.size
  obtain ⟨cur, hg2, hblk, hcs, hrow2⟩ : ∃ cur, wr.heap.size ≤ g2 ∧ w4.heap[g2]? = some (.cells cur 31 (0, 0)) ∧ cur.size = c2 * 2 ∧ IsRow n₀ w4 s.args g2 0 := by
    rcases hN.2.2 with h | ⟨g', cur, e, h1, h2, h3, h4⟩
    · exact absurd h hnil
    · cases e; exact ⟨cur, h1, h2, h3, h4⟩
  have hgl := hbg.lt
  have hS : ∀ b ∈ blks S, b < wr.heap.size := fun b hb => by
    obtain ⟨e, he, rfl⟩ := List.mem_map.1 hb
    exact (h.ents e he).2.1.lt
  have hg2S : g2 ∉ blks S := fun hh => by have := hS _ hh; omega
  have hk5 : ∀ q, q ≠ g → (w4.setCell ⟨g, k * 2 + 1, none⟩ (.slice (some ⟨g2, 0, none⟩) s.args.length c2)).heap[q]? = w4.heap[q]? := fun q hq => Below.heap_setCell _ _ _ _ hq
  have hE : Ent n₀ (w.heap.size + 2) (w4.setCell ⟨g, k * 2 + 1, none⟩ (.slice (some ⟨g2, 0, none⟩) s.args.length c2)) (g2, c2, s.args) :=
    ⟨by show w.heap.size + 2 ≤ g2; omega, Blk.setCell ⟨cur, hblk⟩, isRow_blocks (fun q hq => hk5 q (by omega)) (hk5 g2 (by omega)) hrow2, hN.1, hN.2.1, hnil⟩
  obtain ⟨h7, hkeep, hsz7⟩ := cps_push (old' := fun b j => oldS (S ++ [(g2, c2, s.args)]) b j ∨ (b = g ∧ k + 1 ≤ j ∧ j < ts.length)) h5 hn (by simp; omega) hE hg2S hown hgr (by
    intro b j
    unfold oldStep
    constructor
    · rintro (⟨h1 | h1, h2⟩ | h1)
      · obtain ⟨e, he, h3⟩ := h1
        exact .inl ⟨e, List.mem_append_left _ he, h3⟩
      · exact .inr ⟨h1.1, by have : j ≠ k := fun e => h2 ⟨h1.1, e⟩; omega, h1.2.2⟩
      · have h2 := h1.2
        simp at h2
        exact .inl ⟨(g2, c2, s.args), by simp, h2, h1.1⟩
    · rintro (h1 | h1)
      · obtain ⟨e, he, h3, h4⟩ := h1
        rcases List.mem_append.1 he with he | he
        · exact .inl ⟨.inl ⟨e, he, h3, h4⟩, fun e' => hgS (e'.1 ▸ oldS_blks ⟨e, he, h3, h4⟩)⟩
        · rw [List.mem_singleton.1 he] at h3 h4
          exact .inr ⟨h4, by rw [← h3]⟩
      · exact .inl ⟨.inr ⟨h1.1, by omega, h1.2.2⟩, fun e => by omega⟩)
  have hbg5 : Blk (w4.setCell ⟨g, k * 2 + 1, none⟩ (.slice (some ⟨g2, 0, none⟩) s.args.length c2)) g := (hbg.block (hB.block _ hbg.lt)).setCell
  refine ⟨k + 1, S ++ [(g2, c2, s.args)], by omega, rfl, h7, ?_, hbg5.block (hkeep g (.inr hbg5)), ?_, by rw [sumS_snoc]; simp only; omega, by simp at hsz7; omega⟩
  · simp only [blks, List.map_append, List.map_cons, List.map_nil, List.mem_append, List.mem_singleton, not_or]
    exact ⟨hgS, by omega⟩
  · have hr : IsRow n₀ wr (ts.drop (k + 1)) g ((k + 1) * 2) := by
      have := hrow.drop 1 (by simp; omega)
      rw [List.drop_drop, show k * 2 + 1 * 2 = (k + 1) * 2 from by omega] at this
      exact this
    exact isRow_blocks (fun q hq => hkeep q (.inl hq)) (hkeep g (.inr hbg5)) (isRow_setCell (by omega) _ (by omega) (isRow_blocks (fun k hk => hB.block k (by omega)) (hB.block _ hbg.lt) hr))

theorem cpin_start {n₀ : Nat} {w w2 : World} {t : T} {gs cap : Nat} {S : Ents} {wr : World} {g c : Nat} {ts : List T} (h : CpS n₀ w w2 t (.slice (some ⟨gs, 0, none⟩) (S.length + 1) cap) (S ++ [(g, c, ts)]) wr (oldS (S ++ [(g, c, ts)]))) (hsz : w.heap.size + 4 ≤ wr.heap.size) :
    CpIn n₀ w w2 t g ts (sumS (S ++ [(g, c, ts)])) (.slice (some ⟨gs, 0, none⟩) S.length cap) (.int .i64 ((0 : Nat) : Int)) wr := by
  have hE := h.ents (g, c, ts) (by simp)
  have hnd := h.nodup
  simp only [blks, List.map_append, List.map_cons, List.map_nil] at hnd
  rw [List.nodup_append] at hnd
  refine ⟨0, S, Nat.zero_le _, rfl, ⟨ownsRow_pop (by simpa [stkVals] using h.own), fun e he => h.ents e (List.mem_append_left _ he), hnd.1, h.root, nrow_iff ?_ [t] h.row, h.below⟩, ?_, hE.2.1, by simpa using hE.2.2.1, by rw [sumS_snoc]; simp, hsz⟩
  · intro b j
    constructor
    · rintro ⟨e, he, h1, h2⟩
      rcases List.mem_append.1 he with he | he
      · exact .inl ⟨e, he, h1, h2⟩
      · rw [List.mem_singleton.1 he] at h1 h2
        exact .inr ⟨h1.symm, Nat.zero_le _, h2⟩
    · rintro (⟨e, he, h1⟩ | ⟨rfl, _, h1⟩)
      · exact ⟨e, List.mem_append_left _ he, h1⟩
      · exact ⟨_, List.mem_append_right _ (List.mem_singleton.2 rfl), rfl, h1⟩
  · intro hh
    exact hnd.2.2 g hh g (by simp) rfl

theorem cps_stack {n₀ : Nat} {w w2 : World} {t : T} {st : Value} {S : Ents} {wr : World} {old : Nat → Nat → Prop} {g c : Nat} {ts : List T} (h : CpS n₀ w w2 t st (S ++ [(g, c, ts)]) wr old) :
    ∃ gs cap, st = .slice (some ⟨gs, 0, none⟩) (S.length + 1) cap ∧ S.length + 1 ≤ cap ∧ cap ≤ maxLen ∧ wr.cell? ⟨gs, S.length, none⟩ = some (.slice (some ⟨g, 0, none⟩) ts.length c) := by
  have hcells := fun g hg => h.own.cells (g := g) hg
  have hown := h.own
  simp only [List.length_append, List.length_cons, List.length_nil, Nat.zero_add] at hown
  rcases hown.2 with ⟨_, h0⟩ | ⟨gs, cap, cur, rfl, hb, hh, hn, hc, _⟩
  · omega
  · refine ⟨gs, cap, rfl, hn, hc, ?_⟩
    have := hcells gs rfl S.length (.slice (some ⟨g, 0, none⟩) ts.length c) (by simp [stkVals])
    rw [addr_add] at this
    simpa using this

end Go.Proofs.Ytfkaecjdncjggaa
