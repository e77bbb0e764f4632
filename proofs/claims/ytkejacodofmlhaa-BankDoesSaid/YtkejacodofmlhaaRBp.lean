/- Contract of the reference's put. -/
import Derived.Test.YtkejacodofmlhaaRBk
namespace Go.Proofs.Ytkejacodofmlhaa
set_option linter.unusedVariables false
set_option linter.unusedSimpArgs false
open Go.RowKit Go.Maps

def RBv (B : Nat) (G : Nat → Prop) (W : World) (rb : Nat) (v : Value) (L : List T) : Prop :=
  ∃ xs, W.heap[rb]? = some (.cells #[v] 41 (0, 0)) ∧ W.ownsRow B 24 2 v L.length xs ∧ RowVals (okR G W rb v) W L xs ∧ G rb ∧ (∀ g, v.ownBlock = some g → G g) ∧ B ≤ rb
theorem RBv.k {B : Nat} {G : Nat → Prop} {W : World} {rb : Nat} {v : Value} {L : List T} (h : RBv B G W rb v L) : RBk B G W rb L := by
  obtain ⟨xs, h⟩ := h; exact ⟨v, xs, h⟩
theorem RBv.kept {B : Nat} {G : Nat → Prop} {W W' : World} {rb : Nat} {v : Value} {L : List T} (h : RBv B G W rb v L) (hk : ∀ i, G i → i < W.heap.size → W'.heap[i]? = W.heap[i]?) (hz : W.heap.size ≤ W'.heap.size) : RBv B G W' rb v L := by
  have hl := h.k.lt
  obtain ⟨xs, h1, h2, h3, h4, h5, h6⟩ := h
  exact ⟨xs, (hk rb h4 hl).trans h1, Mm.ownsRow_kept h2 (fun b hb => hk b (h5 b hb) (Mm.rowBlock h2 hb).2.1), h3.keep (fun b hb => hk b hb.1 hb.2.1) (fun b hb => ⟨hb.1, Nat.lt_of_lt_of_le hb.2.1 hz, hb.2.2⟩), h4, h5, h6⟩
theorem RBv.later {B : Nat} {G : Nat → Prop} {W W' : World} {rb : Nat} {v : Value} {L : List T} (h : RBv B G W rb v L) (hb : Below W.heap.size W W') : RBv B G W' rb v L := h.kept (fun i _ hi => hb.block i hi) hb.size
theorem RBv.mono {B : Nat} {G G' : Nat → Prop} {W : World} {rb : Nat} {v : Value} {L : List T} (h : RBv B G W rb v L) (hG : ∀ i, G i → G' i) : RBv B G' W rb v L := by
  obtain ⟨xs, h1, h2, h3, h4, h5, h6⟩ := h
  exact ⟨xs, h1, h2, h3.keep (fun _ _ => rfl) (fun b hb => ⟨hG b hb.1, hb.2⟩), hG rb h4, fun g hg => hG g (h5 g hg), h6⟩
theorem RBv.ne {B : Nat} {G : Nat → Prop} {W : World} {rb : Nat} {v : Value} {L : List T} (h : RBv B G W rb v L) : v.ownBlock ≠ some rb := fun e => by
  obtain ⟨xs, h1, h2, _⟩ := h
  obtain ⟨_, _, cur, hc⟩ := Mm.rowBlock h2 e
  rw [h1] at hc
  simp at hc
theorem RBv.own_lt {B : Nat} {G : Nat → Prop} {W : World} {rb : Nat} {v : Value} {L : List T} (h : RBv B G W rb v L) {i : Nat} (hi : v.ownBlock = some i) : i < W.heap.size := by
  obtain ⟨xs, h1, h2, _⟩ := h
  exact (Mm.rowBlock h2 hi).2.1

structure RS (rb : Nat) (v : Value) (w : World) (v' : Value) (w' : World) : Prop where
  os : w'.os = w.os
  tape : w'.tape = w.tape
  output : w'.output = w.output
  size : w.heap.size ≤ w'.heap.size
  block : ∀ i, i < w.heap.size → i ≠ rb → v.ownBlock ≠ some i → w'.heap[i]? = w.heap[i]?
  own : ∀ i, i < w.heap.size → v'.ownBlock = some i → v.ownBlock = some i
theorem RS.refl (rb : Nat) (v : Value) (w : World) : RS rb v w v w := ⟨rfl, rfl, rfl, Nat.le_refl _, fun _ _ _ _ => rfl, fun _ _ h => h⟩
theorem RS.later {rb : Nat} {v : Value} {w w' : World} (hb : Below w.heap.size w w') : RS rb v w v w' := ⟨hb.os, hb.tape, hb.output, hb.size, fun i hi _ _ => hb.block i hi, fun _ _ h => h⟩
theorem RS.trans {rb : Nat} {v v' v'' : Value} {w w' w'' : World} (h : RS rb v w v' w') (k : RS rb v' w' v'' w'') : RS rb v w v'' w'' :=
  ⟨k.os.trans h.os, k.tape.trans h.tape, k.output.trans h.output, Nat.le_trans h.size k.size, fun i hi h1 h2 => (k.block i (Nat.lt_of_lt_of_le hi h.size) h1 (fun e => h2 (h.own i hi e))).trans (h.block i hi h1 h2), fun i hi e => h.own i hi (k.own i (Nat.lt_of_lt_of_le hi h.size) e)⟩

theorem ownsRow_set6 {w : World} {base : Nat} {e : TypeId} {size g n cap : Nat} {xs : List Value} (h : w.ownsRow base e size (.slice (some ⟨g, 0, none⟩) n cap) n xs) {j : Nat} (hj : j < n * size) (u : Value) : (w.setCell ⟨g, j, none⟩ u).ownsRow base e size (.slice (some ⟨g, 0, none⟩) n cap) n (xs.set j u) := by
  obtain ⟨h1, h2⟩ := h
  refine ⟨by simpa using h1, ?_⟩
  rcases h2 with ⟨h2, _⟩ | ⟨g', cap', cur, h2, h3, h4, h5, h6, h7, h8⟩
  · cases h2
  · cases h2
    refine .inr ⟨g, cap, _, rfl, h3, heap_setCell_same h4 u, h5, h6, by simpa using h7, ?_⟩
    rw [Array.toList_setIfInBounds, List.take_set, h8]

theorem rbput_step {B lo : Nat} {G : Nat → Prop} {wx w5 : World} {rb : Nat} {v : Value} {L : List T} {xs : List Value} {t : T} {a2 : Option Addr} {c2 g5 cap5 : Nat} {ob : Obj} (hG : RBv B G wx rb v L) (hlo : ∀ i, G i → i < lo) (hlox : lo ≤ wx.heap.size) (hw : (Lit.int .i64 t.head).wf = true)
    (hrow : wx.ownsRow B 24 2 v L.length xs) (hrv : RowVals (okR G wx rb v) wx L xs) (hc : IsArgsp (fun b => lo ≤ b ∧ b < wx.heap.size) wx t.args a2 c2) (hgrow : (wx.drew.alloc ob).grownBy w5 v.ownBlock)
    (hown5 : w5.ownsRow B 24 2 (.slice (some ⟨g5, 0, none⟩) (L.length + 1) cap5) (L.length + 1) (xs ++ [.int .i64 0, .slice none 0 0])) (hat : v.ownBlock = some g5 ∨ g5 = wx.heap.size + 1) (W : World)
    (hW : W = ((w5.setCell ⟨g5, L.length * 2, none⟩ (.int .i64 t.head)).setCell ⟨g5, L.length * 2 + 1, none⟩ (.slice a2 t.args.length c2)).setCell ⟨rb, 0, none⟩ (.slice (some ⟨g5, 0, none⟩) (L.length + 1) cap5)) :
    RBv B (fun i => G i ∨ (lo ≤ i ∧ i < W.heap.size)) W rb (.slice (some ⟨g5, 0, none⟩) (L.length + 1) cap5) (L ++ [t]) ∧ RS rb v wx (.slice (some ⟨g5, 0, none⟩) (L.length + 1) cap5) W := by
  have hne := hG.ne
  have hrb := hG.k.lt
  obtain ⟨_, h1, _, _, h4, h5, h6⟩ := hG
  have hz5 : wx.heap.size + 1 ≤ w5.heap.size := by have := hgrow.size; simpa using this
  have hzW : W.heap.size = w5.heap.size := by rw [hW]; simp
  have hg5n : g5 ≠ rb := fun e => by
    subst e
    rcases hat with h | h
    · exact hne h
    · omega
  have hk5 : ∀ i, i < wx.heap.size → v.ownBlock ≠ some i → w5.heap[i]? = wx.heap[i]? := fun i hi hv => (hgrow.block i (by simp; omega) (fun e => hv e.symm)).trans (Below.heap_alloc wx.drew ob i hi)
  have hkW : ∀ i, i < wx.heap.size → i ≠ rb → v.ownBlock ≠ some i → W.heap[i]? = wx.heap[i]? := fun i hi hn hv => by
    have hgi : i ≠ g5 := fun e => by
      subst e
      rcases hat with h | h
      · exact hv h
      · omega
    rw [hW]
    exact (Below.heap_setCell _ _ _ _ hn).trans ((Below.heap_setCell _ _ _ _ hgi).trans ((Below.heap_setCell _ _ _ _ hgi).trans (hk5 i hi hv)))
  have hgl : g5 < w5.heap.size := (hown5.lt g5 rfl).2
  have hxl : xs.length = L.length * 2 := hrow.1
  have hgi2 : ∀ b, b < wx.heap.size → v.ownBlock ≠ some b → (Value.slice (some ⟨g5, 0, none⟩) (L.length + 1) cap5).ownBlock ≠ some b := fun b hb hv e => by
    simp only [Value.ownBlock, Option.some.injEq] at e
    subst e
    rcases hat with h | h
    · exact hv h
    · omega
  refine ⟨⟨xs ++ [.int .i64 t.head, .slice a2 t.args.length c2], ?_, ?_, ?_, .inl h4, fun g hg => ?_, h6⟩, ⟨?_, ?_, ?_, by omega, hkW, fun i hi e => ?_⟩⟩
  · have e5 : w5.heap[rb]? = some (.cells #[v] 41 (0, 0)) := (hk5 rb hrb hne).trans h1
    rw [hW, heap_setCell_same ((Below.heap_setCell _ _ _ _ (Ne.symm hg5n)).trans ((Below.heap_setCell _ _ _ _ (Ne.symm hg5n)).trans e5))]
    rfl
  · have s1 := ownsRow_set6 hown5 (j := L.length * 2) (by omega) (.int .i64 t.head)
    have s2 := ownsRow_set6 s1 (j := L.length * 2 + 1) (by omega) (.slice a2 t.args.length c2)
    have s3 := Mm.ownsRow_setCell_ne (b := rb) (o := 0) s2 (by simpa [Value.ownBlock] using hg5n) (.slice (some ⟨g5, 0, none⟩) (L.length + 1) cap5)
    rw [hW]
    rw [← hxl, List.set_append, if_neg (by omega), Nat.sub_self, List.set_append, if_neg (by omega), show xs.length + 1 - xs.length = 1 from by omega] at s3
    simpa [hxl] using s3
  · refine RowVals.snoc hw (hc.keep (fun b hb => hkW b hb.2 (fun e => by subst e; have := hlo b h4; omega) (fun e => by have := hlo b (h5 b e); omega)) (fun b hb => ⟨.inr ⟨hb.1, by omega⟩, by omega, fun e => by subst e; have := hlo b h4; omega, hgi2 b hb.2 (fun e => by have := hlo b (h5 b e); omega)⟩))
      (hrv.keep (fun b hb => hkW b hb.2.1 hb.2.2.1 hb.2.2.2) (fun b hb => ⟨.inl hb.1, by have := hb.2.1; omega, hb.2.2.1, hgi2 b hb.2.1 hb.2.2.2⟩))
  · simp only [Value.ownBlock, Option.some.injEq] at hg
    subst hg
    rcases hat with h | h
    · exact .inl (h5 _ h)
    · exact .inr ⟨by omega, by omega⟩
  · rw [hW]; exact hgrow.os
  · rw [hW]; exact hgrow.tape
  · rw [hW]; exact hgrow.output
  · simp only [Value.ownBlock, Option.some.injEq] at e
    subst e
    rcases hat with h | h
    · exact h
    · omega

end Go.Proofs.Ytkejacodofmlhaa
