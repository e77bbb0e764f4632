/- Contract of weigh's heads: how often each head stands in a term. -/
import Derived.Test.YtbfanbaijombaaaTp
import Derived.Test.YtbfanbaijombaaaQ1e
import Derived.Test.YtbfanbaijombaaaQ1c
import Derived.Maps.OwnSet
import Derived.Maps.RangeWalk
namespace Go.Proofs.Ytbfanbaijombaaa
set_option linter.unusedVariables false
set_option linter.unusedSimpArgs false
open Go.RowKit Go.Maps

mutual
def T.hds : T → List Int
  | .node h ts => h :: T.hdsL ts
def T.hdsL : List T → List Int
  | [] => []
  | t :: ts => t.hds ++ T.hdsL ts
end
theorem T.hds_eq (t : T) : t.hds = t.head :: T.hdsL t.args := by cases t; rfl
mutual
theorem T.hds_length : (t : T) → t.hds.length = t.size
  | .node h ts => by simp [T.hds, T.size, T.hdsL_length ts]; omega
theorem T.hdsL_length : (ts : List T) → (T.hdsL ts).length = T.sizes ts
  | [] => rfl
  | t :: ts => by simp [T.hdsL, T.sizes, T.hds_length t, T.hdsL_length ts]
end
theorem T.hdsL_drop {ts : List T} {i : Nat} {t : T} (h : ts[i]? = some t) : T.hdsL (ts.drop i) = t.hds ++ T.hdsL (ts.drop (i + 1)) := by
  obtain ⟨hi, e⟩ := List.getElem?_eq_some_iff.1 h
  rw [List.drop_eq_getElem_cons hi, e, T.hdsL]

theorem keyHd : Keyed Try.prog 3 := int_keyed Try.underlying3
theorem zeroHd (w : World) : (zeroValue 3).run Try.prog w = .ok (.int .i64 0) w := by kernel_rfl
def hwf (v : Int) : Prop := -9223372036854775808 ≤ v ∧ v ≤ 9223372036854775807
theorem hwf.wf {v : Int} (h : hwf v) : (Lit.int .i64 v).wf = true := WalkArith.wf_i64 h
theorem hwf_of {v : Int} (h : (Lit.int .i64 v).wf = true) : hwf v := by
  revert h
  intro hw
  show -9223372036854775808 ≤ v ∧ v ≤ 9223372036854775807
  simp [Lit.wf, IntKind.min, IntKind.max, IntKind.signed, IntKind.bits] at hw
  omega

/-- Block M is a map that tells of each number how often it stands in L. -/
def CntM (W : World) (M : Nat) (L : List Int) : Prop :=
  ∃ D : DataW Unit, W.ownsMap Try.prog 3 (plainElem Try.prog 3) M L.length D ∧ (∀ v, hwf v → Maps.has D (.int .i64 v) = decide (v ∈ L) ∧ (v ∈ L → ∀ z, D.atKey (.int .i64 v) z = .lit (.int .i64 (L.count v : Nat)))) ∧ ∀ v ∈ L, hwf v

theorem CntM.lt {W : World} {M : Nat} {L : List Int} (h : CntM W M L) : M < W.heap.size := by obtain ⟨D, h1, _⟩ := h; exact h1.lt
theorem CntM.kept {W W' : World} {M : Nat} {L : List Int} (h : CntM W M L) (hb : W'.heap[M]? = W.heap[M]?) : CntM W' M L := by
  obtain ⟨D, ⟨es, clock, hm, r⟩, h2⟩ := h
  exact ⟨D, ⟨es, clock, hb.trans hm, r⟩, h2⟩
theorem CntM.notCells {W : World} {M : Nat} {L : List Int} (h : CntM W M L) {cs : Array Value} {e : TypeId} {fz : Nat × Nat} : W.heap[M]? ≠ some (.cells cs e fz) := by
  obtain ⟨D, ⟨es, clock, hm, r⟩, h2⟩ := h
  rw [hm]; simp
theorem CntM.perm {W : World} {M : Nat} {L L' : List Int} (h : CntM W M L) (hp : L.Perm L') : CntM W M L' := by
  obtain ⟨D, h1, h2, h4⟩ := h
  refine ⟨D, by rw [← hp.length_eq]; exact h1, fun v hv => ?_, fun v hv => h4 v (hp.mem_iff.2 hv)⟩
  obtain ⟨q1, q2⟩ := h2 v hv
  refine ⟨by rw [q1]; simp [hp.mem_iff], fun hm z => ?_⟩
  rw [q2 (hp.mem_iff.2 hm) z, hp.count_eq]
theorem CntM.look {W : World} {M : Nat} {L : List Int} (h : CntM W M L) {v : Int} (hv : hwf v) :
    (Instr.lookup 73 (.map (some M)) (.int .i64 v) false).run Try.prog W = .ok (.int .i64 (L.count v : Nat)) W := by
  obtain ⟨D, h1, h3, h4⟩ := h
  have hkey := keyOf_int_mk (P := Try.prog) (k := 3) Try.underlying3 hv.wf
  obtain ⟨q1, q2⟩ := h3 v hv
  obtain ⟨c, hrun, hat, _⟩ := h1.lookup_int keyHd Try.underlying73 Try.underlying3 (zeroHd _) hkey
  rw [hrun]
  by_cases hm : v ∈ L
  · rw [q2 hm] at hat
    simp at hat
    rw [hat]
  · rw [Maps.atKey_of_not_has (by rw [q1]; simp [hm])] at hat
    simp at hat
    rw [← hat, List.count_eq_zero.2 hm]; rfl
theorem CntM.put {W : World} {M : Nat} {L : List Int} (h : CntM W M L) {v : Int} (hv : hwf v) (hn : L.length ≤ 1000000000000) :
    ∃ w', (Instr.mapUpdate 73 (.map (some M)) (.int .i64 v) (.int .i64 ((L.count v : Nat) + 1))).run Try.prog W = .ok () w' ∧ CntM w' M (v :: L) ∧ W.grownBy w' (some M) := by
  obtain ⟨D, h1, h3, h4⟩ := h
  have hkey := keyOf_int_mk (P := Try.prog) (k := 3) Try.underlying3 hv.wf
  have hcl : L.count v ≤ L.length := List.count_le_length
  have hwc : (Lit.int .i64 ((L.count v : Nat) + 1)).wf = true := WalkArith.wf_i64 ⟨by omega, by omega⟩
  obtain ⟨w', hrun, r1, r2⟩ := h1.update keyHd Try.underlying73 (by unfold maxLen; omega) hkey (plainElem_int (H := Unit) (P := Try.prog) Try.underlying3 hwc)
  have hM := h1.isMap
  refine ⟨w', hrun, ⟨_, r1, fun x hx => ?_, fun x hx => by rcases List.mem_cons.1 hx with rfl | hx; exact hv; exact h4 x hx⟩, r2⟩
  by_cases e : x = v
  · subst e
    refine ⟨by rw [Maps.has_put_same hM (show WideAt.IsKeyLit (.int .i64 x) from trivial)]; simp, fun _ z => ?_⟩
    rw [Maps.atKey_put_same (k := .int .i64 x) hM (show WideAt.IsKeyLit (.int .i64 x) from trivial) _ z]
    simp
  · have hne : Lit.int .i64 x ≠ Lit.int .i64 v := by intro e'; injection e' with _ e'; exact e e'
    refine ⟨by rw [Maps.has_put_other hne, (h3 x hx).1]; simp [e], fun hm z => ?_⟩
    rw [Maps.atKey_put_other hne, (h3 x hx).2 (by simpa [e] using hm) z, List.count_cons_of_ne (fun e' => e e'.symm)]
theorem CntM.made (w : World) : CntM (w.alloc (.map #[] 0)) w.heap.size [] :=
  ⟨.map [], World.ownsMap_made w Try.prog 3 (plainElem Try.prog 3), fun v _ => ⟨rfl, by simp⟩, by simp⟩

/-! ### The stack -/
abbrev Stk := List (List T × Option Addr × Nat)
def hvals (S : Stk) : List Value := S.map fun e => .slice e.2.1 e.1.length e.2.2
def hsum (S : Stk) : Nat := (S.map fun e => T.sizes e.1).sum
def hall (S : Stk) : List Int := (S.map fun e => T.hdsL e.1).flatten
theorem hall_length (S : Stk) : (hall S).length = hsum S := by
  induction S with
  | nil => rfl
  | cons e S ih => simp only [hall, hsum, List.map_cons, List.flatten_cons, List.sum_cons, List.length_append, T.hdsL_length] at ih ⊢; omega
theorem hsum_snoc (S : Stk) (e) : hsum (S ++ [e]) = hsum S + T.sizes e.1 := by simp [hsum]
theorem hall_snoc (S : Stk) (e) : hall (S ++ [e]) = hall S ++ T.hdsL e.1 := by simp [hall]

structure HdC (n₀ : Nat) (w : World) (M Bl base : Nat) (st : Value) (S : Stk) (L : List Int) (wr : World) : Prop where
  own : wr.ownsRow base 23 1 st S.length (hvals S)
  ents : ∀ e ∈ S, IsArgsp (fun b => b < n₀ ∨ b = Bl) wr e.1 e.2.1 e.2.2 ∧ e.1 ≠ []
  map : CntM wr M L
  below : Below w.heap.size w wr
  lt : Bl < wr.heap.size ∧ base ≤ wr.heap.size

theorem own_ge {w : World} {base n size : Nat} {e : TypeId} {v : Value} {xs : List Value} (ho : w.ownsRow base e size v n xs) {b : Nat} (h : v.ownBlock = some b) : base ≤ b := by
  rcases ho.2 with ⟨rfl, _⟩ | ⟨g, cap, cur, rfl, hb, _⟩
  · cases h
  · simp [Value.ownBlock] at h; omega
theorem hd_pop {w : World} {base : Nat} {e : TypeId} {g n cap : Nat} {xs : List Value} {x : Value} (h : w.ownsRow base e 1 (.slice (some ⟨g, 0, none⟩) (n + 1) cap) (n + 1) (xs ++ [x])) : w.ownsRow base e 1 (.slice (some ⟨g, 0, none⟩) n cap) n xs := by
  obtain ⟨h1, h2⟩ := h
  refine ⟨by simp at h1; omega, ?_⟩
  rcases h2 with ⟨h2, _⟩ | ⟨g', cap', cur, h2, h3, h4, h5, h6, h7, h8⟩
  · cases h2
  · cases h2
    refine .inr ⟨g, cap, cur, rfl, h3, h4, by omega, h6, h7, ?_⟩
    have : (cur.toList.take ((n + 1) * 1)).take (n * 1) = (xs ++ [x]).take (n * 1) := by rw [h8]
    rw [List.take_take] at this
    rw [show min (n * 1) ((n + 1) * 1) = n * 1 from by omega] at this
    rw [this, List.take_append_of_le_length (by simp at h1; omega), List.take_of_length_le (by simp at h1; omega)]

section
variable {n₀ : Nat} {w : World} {M Bl base : Nat} {st : Value} {S : Stk} {L : List Int} {wr w' : World}
theorem HdC.later (h : HdC n₀ w M Bl base st S L wr) (hn : n₀ ≤ w.heap.size) (hB : Below wr.heap.size wr w') : HdC n₀ w M Bl base st S L w' := by
  have hsz := h.below.size
  refine ⟨ownsRow_later h.own hB, fun e he => ⟨(h.ents e he).1.keep (fun b hb => hB.block b (by rcases hb with hb | rfl; omega; exact h.lt.1)) (fun _ x => x), (h.ents e he).2⟩, h.map.kept (hB.block _ h.map.lt), h.below.trans (hB.mono hsz), ?_⟩
  have := hB.size
  exact ⟨by have := h.lt.1; omega, by have := h.lt.2; omega⟩
theorem HdC.put (h : HdC n₀ w M Bl base st S L wr) (hn : n₀ ≤ w.heap.size) (hM : w.heap.size ≤ M) (hMB : M ≠ Bl) (hMb : M < base) {L' : List Int} (hm : CntM w' M L') (hg : wr.grownBy w' (some M)) : HdC n₀ w M Bl base st S L' w' := by
  have hsz := h.below.size
  have hne : st.ownBlock ≠ some M := fun e => by have := own_ge h.own e; omega
  refine ⟨h.own.kept hg (.inr hne), fun e he => ⟨(h.ents e he).1.keep (fun b hb => hg.block b (by rcases hb with hb | rfl; omega; exact h.lt.1) (fun e => by cases e; rcases hb with hb | hb; omega; exact hMB hb)) (fun _ x => x), (h.ents e he).2⟩, hm, h.below.grown hg (by omega) (fun k e => by cases e; exact hM), ?_⟩
  have := hg.size
  exact ⟨by have := h.lt.1; omega, by have := h.lt.2; omega⟩
theorem HdC.push (h : HdC n₀ w M Bl base st S L wr) (hn : n₀ ≤ w.heap.size) (hM : w.heap.size ≤ M) (hMb : M < base) (hBb : Bl < base) (hwb : w.heap.size ≤ base) {st' : Value} {ts : List T} {a : Option Addr} {c : Nat} {ob : Obj} (hA : IsArgsp (fun b => b < n₀ ∨ b = Bl) wr ts a c) (hne : ts ≠ [])
    (hown : w'.ownsRow base 23 1 st' (S.length + 1) (hvals S ++ [.slice a ts.length c])) (hgr : (wr.alloc ob).grownBy w' st.ownBlock) : HdC n₀ w M Bl base st' (S ++ [(ts, a, c)]) L w' := by
  have hsz := h.below.size
  have hge : ∀ b, st.ownBlock = some b → base ≤ b := fun b e => own_ge h.own e
  have hk : ∀ b, b < wr.heap.size → b < base → w'.heap[b]? = wr.heap[b]? := fun b hb hbb =>
    (hgr.block b (by simp; omega) (fun e => by have := hge b e.symm; omega)).trans (Below.heap_alloc _ _ _ hb)
  have hok : ∀ b, (b < n₀ ∨ b = Bl) → w'.heap[b]? = wr.heap[b]? := fun b hb => by
    rcases hb with hb | rfl
    · exact hk b (by omega) (by omega)
    · exact hk b h.lt.1 hBb
  refine ⟨by simpa [hvals] using hown, fun e he => ?_, h.map.kept (hk M h.map.lt hMb), (h.below.alloc hsz ob).grown hgr (by simp; omega) (fun k e => by have := hge k e; omega), ?_⟩
  · rcases List.mem_append.1 he with he | he
    · exact ⟨(h.ents e he).1.keep hok (fun _ x => x), (h.ents e he).2⟩
    · rw [List.mem_singleton.1 he]
      exact ⟨hA.keep hok (fun _ x => x), hne⟩
  · have := hgr.size
    simp at this
    exact ⟨by have := h.lt.1; omega, by have := h.lt.2; omega⟩
theorem HdC.stack {ts : List T} {a : Option Addr} {c : Nat} (h : HdC n₀ w M Bl base st (S ++ [(ts, a, c)]) L wr) :
    ∃ gs cap, st = .slice (some ⟨gs, 0, none⟩) (S.length + 1) cap ∧ S.length + 1 ≤ cap ∧ cap ≤ maxLen ∧ wr.cell? ⟨gs, S.length, none⟩ = some (.slice a ts.length c) ∧ HdC n₀ w M Bl base (.slice (some ⟨gs, 0, none⟩) S.length cap) S L wr := by
  have hcells := fun g hg => h.own.cells (g := g) hg
  have hown := h.own
  simp only [List.length_append, List.length_cons, List.length_nil, Nat.zero_add] at hown
  rcases hown.2 with ⟨_, h0⟩ | ⟨gs, cap, cur, rfl, hb, hh, hn, hc, _⟩
  · omega
  · refine ⟨gs, cap, rfl, hn, hc, ?_, ⟨hd_pop (by simpa [hvals] using hown), fun e he => h.ents e (List.mem_append_left _ he), h.map, h.below, h.lt⟩⟩
    have := hcells gs rfl S.length (.slice a ts.length c) (by simp [hvals])
    rw [addr_add] at this
    simpa using this
theorem HdC.nilStack (h : HdC n₀ w M Bl base st [] L wr) : ∃ a c, st = .slice a 0 c := by
  rcases h.own.2 with ⟨h, _⟩ | ⟨gs, cap, cur, h, _⟩
  · exact ⟨none, 0, h⟩
  · exact ⟨_, _, h⟩
theorem HdC.len (h : HdC n₀ w M Bl base st S L wr) : S.length ≤ hsum S := by
  have h2 := h.ents
  clear h
  induction S with
  | nil => simp [hsum]
  | cons e S ih =>
    have h1 := ih (fun e he => h2 e (List.mem_cons_of_mem _ he))
    have h3 := T.sizes_ge_length e.1
    have h4 : 0 < e.1.length := List.length_pos_iff.2 (h2 e (List.mem_cons_self ..)).2
    simp [hsum] at h1 ⊢
    omega
end

theorem infoTs : (Try.prog.info? 23).map (fun i => (i.zero, i.size, i.bytes)) = some (some (.slice none 0 0), 1, 24) := by kernel_rfl

def HeadsPost (t : T) (w : World) (e : Ending) (w' : World) : Prop := ∃ M, e = .returned (.map (some M)) ∧ w.heap.size ≤ M ∧ CntM w' M t.hds ∧ Below w.heap.size w w'
def HdOut (n₀ : Nat) (w : World) (t : T) (gk : Nat) (st : Value) (wr : World) : Prop :=
  ∃ S L, HdC n₀ w (w.heap.size + 1) (w.heap.size + 2) (w.heap.size + 3) st S L wr ∧ hsum S = gk ∧ (L ++ hall S).Perm t.hds
def HdIn (n₀ : Nat) (w : World) (t : T) (ts : List T) (gk : Nat) (st i : Value) (wr : World) : Prop :=
  ∃ k S L, k ≤ ts.length ∧ i = .int .i64 (k : Nat) ∧ HdC n₀ w (w.heap.size + 1) (w.heap.size + 2) (w.heap.size + 3) st S L wr ∧ hsum S + T.sizes (ts.drop k) + k ≤ gk ∧ (L ++ hall S ++ T.hdsL (ts.drop k)).Perm t.hds

set_option maxRecDepth 100000 in
set_option maxHeartbeats 4000000 in
theorem heads_any (t : T) (ht : t.size ≤ 1000000000000) (n₀ : Nat) (a : Option Addr) (c : Nat) (w : World) (hn : n₀ ≤ w.heap.size) (hwf : (Lit.int .i64 t.head).wf = true) (hA : IsArgs n₀ w t.args a c) :
    Calls Try.prog 39 #[tm t.head a t.args.length c] w (HeadsPost t w) := by
  have HWF := Lib.hid hwf
  have HA := Lib.hid hA
  clear hwf hA
  obtain ⟨i0, hi, hz0, hz1, hz2⟩ := info_parts infoTs
  have hmm := @run_makeMap Try.prog
  go_enter Try.func39, Try.ntmps39
  go_wp2
  have hst : HdOut n₀ w t (T.sizes [t]) (.slice (some ⟨w.heap.size + 1 + 1 + 1, 0, none⟩) 1 1) ((((w.alloc (tmCells t.head a t.args.length c)).alloc (.map #[] 0)).alloc (tmCells t.head a t.args.length c)).alloc (.cells #[.slice (some ⟨w.heap.size + 1 + 1, 0, none⟩) 1 1] 23)) := by
    obtain ⟨w1, hw1⟩ : ∃ w1, w.alloc (tmCells t.head a t.args.length c) = w1 := ⟨_, rfl⟩
    have hs1 : w1.heap.size = w.heap.size + 1 := by rw [← hw1]; simp
    have hB1 : Below w.heap.size w w1 := by rw [← hw1]; exact (Below.refl _ w).alloc (Nat.le_refl _) _
    rw [hw1]
    obtain ⟨w2, hw2⟩ : ∃ w2, w1.alloc (.map #[] 0) = w2 := ⟨_, rfl⟩
    have hm2 : CntM w2 (w.heap.size + 1) [] := by rw [← hw2, ← hs1]; exact CntM.made w1
    have hs2 : w2.heap.size = w.heap.size + 2 := by rw [← hw2]; simp; omega
    have hB2 : Below w.heap.size w w2 := by rw [← hw2]; exact hB1.alloc (by omega) _
    rw [hw2]
    obtain ⟨w3, hw3⟩ : ∃ w3, w2.alloc (tmCells t.head a t.args.length c) = w3 := ⟨_, rfl⟩
    have hb3 : w3.heap[w.heap.size + 2]? = some (tmCells t.head a t.args.length c) := by rw [← hw3, ← hs2]; exact heap_alloc_new w2 _
    have hs3 : w3.heap.size = w.heap.size + 3 := by rw [← hw3]; simp; omega
    have hB3 : Below w.heap.size w w3 := by rw [← hw3]; exact hB2.alloc (by omega) _
    have hm3 : CntM w3 (w.heap.size + 1) [] := hm2.kept (by rw [← hw3]; exact Below.heap_alloc _ _ _ (by omega))
    rw [hw3]
    obtain ⟨w4, hw4⟩ : ∃ w4, w3.alloc (.cells #[.slice (some ⟨w.heap.size + 1 + 1, 0, none⟩) 1 1] 23) = w4 := ⟨_, rfl⟩
    have hb4 : w4.heap[w.heap.size + 2]? = some (tmCells t.head a t.args.length c) := by rw [← hw4]; exact (Below.heap_alloc _ _ _ (by omega)).trans hb3
    have hc4 : w4.heap[w.heap.size + 3]? = some (.cells #[.slice (some ⟨w.heap.size + 1 + 1, 0, none⟩) 1 1] 23 (0, 0)) := by rw [← hw4, ← hs3]; exact heap_alloc_new w3 _
    have hs4 : w4.heap.size = w.heap.size + 4 := by rw [← hw4]; simp; omega
    have hB4 : Below w.heap.size w w4 := by rw [← hw4]; exact hB3.alloc (by omega) _
    have hm4 : CntM w4 (w.heap.size + 1) [] := hm3.kept (by rw [← hw4]; exact Below.heap_alloc _ _ _ (by omega))
    rw [hw4]
    have hrow : IsRowp (fun b => b < n₀ ∨ b = w.heap.size + 2) w4 [t] (w.heap.size + 2) 0 := by
      simp only [IsRowp, and_true]
      exact isTp_iff.2 ⟨HWF.out, by simp [World.cell?, hb4], a, c, by simp [World.cell?, hb4], (isArgsp_lt.2 (HA.out.below (hB4.mono hn))).mono (fun b hb => .inl hb)⟩
    refine ⟨[([t], some ⟨w.heap.size + 2, 0, none⟩, 1)], [], ⟨?_, ?_, hm4, hB4, by omega, by omega⟩, by simp [hsum], by simp [hall, T.hdsL]⟩
    · exact ⟨by simp [hvals], .inr ⟨w.heap.size + 3, 1, _, rfl, Nat.le_refl _, hc4, Nat.le_refl _, by simp [maxLen], rfl, rfl⟩⟩
    · intro e he
      simp at he
      subst he
      exact ⟨⟨Nat.le_refl _, by simp [maxLen], .inr ⟨w.heap.size + 2, 0, rfl, .inr rfl, hrow⟩⟩, by simp⟩
  have HST := Lib.hid hst
  generalize (((w.alloc (tmCells t.head a t.args.length c)).alloc (.map #[] 0)).alloc (tmCells t.head a t.args.length c)).alloc (.cells #[.slice (some ⟨w.heap.size + 1 + 1, 0, none⟩) 1 1] 23) = w4 at *
  clear hst
  go_loopg [4] (T.sizes [t]) (fun gk st wr => HdOut n₀ w t gk st wr)
  case atStart => exact HST.out
  case round =>
    clear HST
    obtain ⟨S, L, hS, hgk, hp⟩ := hrel
    have HP := Lib.hid hp
    have HGK := Lib.hid hgk
    clear hgk hp
    rcases List.eq_nil_or_concat S with rfl | ⟨S0, ⟨ts, a', c'⟩, rfl⟩
    · obtain ⟨a3, c3, rfl⟩ := hS.nilStack
      have HS := Lib.hid hS
      clear hS
      go_wp2
      go_ret
      exact ⟨_, rfl, by omega, HS.out.map.perm (by simpa [hall] using HP.out), HS.out.below⟩
    · simp only [List.concat_eq_append] at hS
      have hpp := HP.out
      simp only [List.concat_eq_append, hall_snoc, ← List.append_assoc] at hpp
      have hgg := HGK.out
      simp only [List.concat_eq_append, hsum_snoc] at hgg
      obtain ⟨hE, hne⟩ := hS.ents (ts, a', c') (by simp)
      dsimp only at hE hne hpp hgg
      obtain ⟨gs, cap, rfl, hcap, hcm, hcell, hC⟩ := hS.stack
      have hin : HdIn n₀ w t ts gk (.slice (some ⟨gs, 0, none⟩) S0.length cap) (.int .i64 ((0 : Nat) : Int)) wr := ⟨0, S0, L, Nat.zero_le _, rfl, hC, by simp; omega, by simpa using hpp⟩
      have hpl := hpp.length_eq
      simp only [List.length_append, T.hds_length, T.hdsL_length] at hpl
      have HIN := Lib.hid hin
      have hlt : 0 < ts.length := List.length_pos_iff.2 hne
      have hlm : ts.length ≤ 1000000000000 := by have h1 := T.sizes_ge_length ts; omega
      have hs0 : S0.length ≤ 1000000000000 := by
        have h1 := hC.len
        have h2 := hall_length S0
        omega
      have hcc : c' ≤ maxLen := hE.2.1
      have hlc : ts.length ≤ c' := hE.1
      have HE := Lib.hid (fun (W : World) (hW : ∀ b, (b < n₀ ∨ b = w.heap.size + 2) → W.heap[b]? = wr.heap[b]?) => hE.keep hW (fun _ x => x))
      unfold maxLen at hcm hcc
      clear hin hS hE hC hpp hpl
      go_wp2
      go_loopw [4, 28] (fun st i wq => HdIn n₀ w t ts gk st i wq ∧ ∀ b, (b < n₀ ∨ b = w.heap.size + 2) → wq.heap[b]? = wr.heap[b]?) (fun _ i _ => ts.length - (intOf i).toNat)
      case atStart => exact ⟨HIN.out, fun _ _ => rfl⟩
      case round =>
        clear HIN hcell
        obtain ⟨⟨k, S, L, hk, rfl, hC, hM, hP⟩, hkp⟩ := hrel
        have hpl := hP.length_eq
        simp only [List.length_append, T.hds_length, T.hdsL_length, hall_length] at hpl
        have hEr := HE.out wr hkp
        by_cases hlk : k < ts.length
        · obtain ⟨b, o, s, a1, c1, rfl, hbk, hs, hswf, hc0, hc1, hA'⟩ := hEr.elem hlk
          have hsd := T.sizes_drop hs
          have hsq := T.size_eq s
          have hsl2 := T.sizes_ge_length s.args
          have hsa : s.args.length ≤ 1000000000000 := by omega
          have hSl : S.length + 1 ≤ 1000000000000 := by have := hC.len; omega
          have hhd := T.hdsL_drop hs
          have hP2 : (s.head :: L ++ (hall S ++ T.hdsL s.args) ++ T.hdsL (ts.drop (k + 1))).Perm t.hds := by
            refine List.Perm.trans ?_ hP
            rw [hhd, T.hds_eq]
            simp only [List.cons_append, List.append_assoc]
            rw [show L ++ (hall S ++ s.head :: (T.hdsL s.args ++ T.hdsL (ts.drop (k + 1)))) = (L ++ hall S) ++ s.head :: (T.hdsL s.args ++ T.hdsL (ts.drop (k + 1))) from by simp]
            refine List.Perm.trans ?_ (List.perm_middle).symm
            simp
          have hbw : b < wr.heap.size := World.block_lt_of_cell? wr ⟨b, _, none⟩ hc0
          obtain ⟨W1, hW1⟩ : ∃ W1, wr.alloc (.cells #[.int .i64 s.head, .slice a1 s.args.length c1] 25) = W1 := ⟨_, rfl⟩
          have hBl : Below wr.heap.size wr W1 := by rw [← hW1]; exact (Below.refl _ wr).alloc (Nat.le_refl _) _
          have hC1 := hC.later hn hBl
          have hs1 : W1.heap.size = wr.heap.size + 1 := by rw [← hW1]; simp
          have hws := hC.below.size
          have hbM : w.heap.size + 1 < wr.heap.size := hC.map.lt
          have hd0 : W1.cell? ⟨wr.heap.size, 0, none⟩ = some (.int .i64 s.head) := by rw [← hW1]; simp [go_sem]
          have hd1 : W1.cell? ⟨wr.heap.size, 1, none⟩ = some (.slice a1 s.args.length c1) := by rw [← hW1]; simp [go_sem]
          have hlook := hC1.map.look (hwf_of hswf)
          obtain ⟨w5, hput, hm5, hg5⟩ := hC1.map.put (hwf_of hswf) (by omega)
          have hcl : L.count s.head ≤ L.length := List.count_le_length
          have hC5 := hC1.put hn (by omega) (by omega) (by omega) hm5 hg5
          have hd0' : w5.cell? ⟨wr.heap.size, 0, none⟩ = some (.int .i64 s.head) := (World.cell?_of_block (a := ⟨wr.heap.size, 0, none⟩) (hg5.block wr.heap.size (by omega) (by simp; omega))).trans hd0
          have hd1' : w5.cell? ⟨wr.heap.size, 1, none⟩ = some (.slice a1 s.args.length c1) := (World.cell?_of_block (a := ⟨wr.heap.size, 1, none⟩) (hg5.block wr.heap.size (by omega) (by simp; omega))).trans hd1
          have hok5 : ∀ b, (b < n₀ ∨ b = w.heap.size + 2) → w5.heap[b]? = wr.heap[b]? := fun q hq =>
            (hg5.block q (by have := hC.lt.1; rcases hq with hq | rfl <;> omega) (by simp; omega)).trans (hBl.block q (by have := hC.lt.1; rcases hq with hq | rfl <;> omega))
          have hA5 : IsArgsp (fun b => b < n₀ ∨ b = w.heap.size + 2) w5 s.args a1 c1 := hA'.keep hok5 (fun _ x => x)
          have hq : L.count s.head ≤ 1000000000000 := by omega
          generalize L.count s.head = q at hlook hput hq
          have HC5 := Lib.hid hC5
          have HA5 := Lib.hid hA5
          have HP2 := Lib.hid hP2
          have HOK5 := Lib.hid (fun b hb => (hok5 b hb).trans (hkp b hb))
          have HM := Lib.hid hM
          have HSD := Lib.hid hsd
          have HSQ := Lib.hid hsq
          clear hC hM hP hkp hpl hEr hswf hA' hhd hP2 hBl hC1 hm5 hg5 hcl hC5 hok5 hA5 hsd hsq hsl2 hs hs1
          by_cases hnil : s.args.length = 0
          · have hnil2 : s.args = [] := List.eq_nil_of_length_eq_zero hnil
            have HNL := Lib.hid hnil2
            clear hnil2
            have hz : ¬ 0 < s.args.length := by omega
            clear hnil
            go_wp2
            go_roundw
            case rel =>
              refine ⟨⟨k + 1, S, s.head :: L, by omega, by go_num, HC5.out, ?_, ?_⟩, HOK5.out⟩
              · have := HM.out; have h2 := HSD.out; have h3 := HSQ.out; omega
              · have := HP2.out
                rw [HNL.out] at this
                simpa [T.hdsL] using this
            case measure => simp [intOf]; omega
          · have hz : 0 < s.args.length := by omega
            have HNL := Lib.hid (show s.args ≠ [] from fun e => hnil (by rw [e]; rfl))
            clear hnil
            go_wp2_with (at_builtin; refine stopHere ?_)
            refine Lib.hid ?_
            refine wpList_append_own _ rfl _ _ 95 rfl (w.heap.size + 3) 23 i0 (.slice none 0 0) 1 24 Try.underlying95 hi hz0 hz1 hz2 rfl (by decide) u4 S.length (hvals S) rfl (HC5.out.own.alloc _) ⟨w5.heap.size, 0, none⟩ 1 1 [.slice a1 s.args.length c1] rfl rfl (cell_one_at _ _ _ _ (by simp)) (by simp [Value.oneCell']) (by unfold maxLen; omega) (by omega) (by have := HC5.out.lt.2; simp; omega) ?_
            intro v' w7 hown hgr _
            have HO7 := Lib.hid hown
            have HG7 := Lib.hid hgr
            have HOK7 := Lib.hid (show ∀ b, (b < n₀ ∨ b = w.heap.size + 2) → w7.heap[b]? = w5.heap[b]? from fun q hq => by
              have h1 := HC5.out.lt.1
              have h2 := HC5.out.below.size
              have h3 : q < w5.heap.size := by rcases hq with hq | hq <;> omega
              exact (hgr.block q (by simp; omega) (fun e => by have := own_ge HC5.out.own e.symm; rcases hq with hq | hq <;> omega)).trans (Below.heap_alloc _ _ _ h3))
            clear hown hgr
            go_wp2
            go_roundw
            case rel =>
              refine ⟨⟨k + 1, S ++ [(s.args, a1, c1)], s.head :: L, by omega, by go_num, HC5.out.push hn (by omega) (by omega) (by omega) (by omega) HA5.out HNL.out HO7.out HG7.out, ?_, ?_⟩, fun b hb => (HOK7.out b hb).trans (HOK5.out b hb)⟩
              · rw [hsum_snoc]; have := HM.out; have h2 := HSD.out; have h3 := HSQ.out; dsimp only; omega
              · rw [hall_snoc, ← List.append_assoc]
                have := HP2.out
                simpa [← List.append_assoc] using this
            case measure => simp [intOf]; omega
        · obtain rfl : k = ts.length := by omega
          have HC := Lib.hid hC
          have HP3 := Lib.hid hP
          have HM := Lib.hid hM
          clear hC hP hM hkp hEr hpl
          go_wp2
          go_roundg (hsum S)
          case measure => have := HM.out; omega
          case rel => exact ⟨S, L, HC.out, rfl, by simpa [T.hdsL] using HP3.out⟩

end Go.Proofs.Ytbfanbaijombaaa
