/- A term that is being copied: parts of it lie in new blocks, parts still in the old ones. -/
import Derived.Test.YtfkaecjdncjggaaClone
import Derived.Test.YtfkaecjdncjggaaTp
import Derived.Test.YtfkaecjdncjggaaRCp0
namespace Go.Proofs.Ytfkaecjdncjggaa
set_option linter.unusedVariables false
set_option linter.unusedSimpArgs false
set_option linter.unusedSectionVars false
open Go.RowKit

mutual
theorem isT_fun {n₀ : Nat} {w : World} : (t : T) → ∀ {t' : T} {b o : Nat}, IsT n₀ w t b o → IsT n₀ w t' b o → t = t'
  | .node h ts, .node h' ts', b, o, h1, h2 => by
    simp only [IsT] at h1 h2
    obtain ⟨_, p1, a, c, p2, _, _, p3⟩ := h1
    obtain ⟨_, q1, a', c', q2, _, _, q3⟩ := h2
    rw [p1] at q1
    rw [p2] at q2
    simp at q1 q2
    obtain ⟨e1, e2, e3⟩ := q2
    subst e1
    have hts : ts = ts' := by
      rcases p3 with rfl | ⟨b1, o1, rfl, _, r1⟩
      · exact (List.eq_nil_of_length_eq_zero (by simpa using e2.symm)).symm
      · rcases q3 with rfl | ⟨b2, o2, e, _, r2⟩
        · exact List.eq_nil_of_length_eq_zero (by simpa using e2)
        · cases e
          exact isRow_fun ts e2 r1 r2
    rw [q1, hts]
theorem isRow_fun {n₀ : Nat} {w : World} : (ts : List T) → ∀ {ts' : List T} {b o : Nat}, ts.length = ts'.length → IsRow n₀ w ts b o → IsRow n₀ w ts' b o → ts = ts'
  | [], [], _, _, _, _, _ => rfl
  | [], _ :: _, _, _, h, _, _ => by simp at h
  | _ :: _, [], _, _, h, _, _ => by simp at h
  | t :: ts, t' :: ts', b, o, hl, h1, h2 => by
    simp only [IsRow] at h1 h2
    rw [isT_fun t h1.1 h2.1, isRow_fun ts (by simpa using hl) h1.2 h2.2]
end

/-- A block of terms that may be written. -/
def Blk (w : World) (b : Nat) : Prop := ∃ cur, w.heap[b]? = some (.cells cur 31 (0, 0))
theorem Blk.lt {w : World} {b : Nat} (h : Blk w b) : b < w.heap.size := by obtain ⟨cur, h⟩ := h; exact (Array.getElem?_eq_some_iff.1 h).1
theorem Blk.block {w w' : World} {b : Nat} (h : Blk w b) (e : w'.heap[b]? = w.heap[b]?) : Blk w' b := by obtain ⟨cur, h⟩ := h; exact ⟨cur, e.trans h⟩
theorem Blk.setCell {w : World} {b b' o : Nat} {u : Value} (h : Blk w b) : Blk (w.setCell ⟨b', o, none⟩ u) b := by
  by_cases e : b = b'
  · subst e; obtain ⟨cur, h⟩ := h; exact ⟨_, heap_setCell_same h u⟩
  · exact h.block (Below.heap_setCell _ _ _ _ e)
theorem Blk.frozen {w : World} {b o : Nat} (h : Blk w b) : w.frozen? ⟨b, o, none⟩ = false := by obtain ⟨cur, h⟩ := h; simp [World.frozen?, h]

mutual
def NT (n₀ lo : Nat) (w : World) (old : Nat → Nat → Prop) : T → Nat → Nat → Prop
  | .node h ts, b, j => (Lit.int .i64 h).wf = true ∧ w.cell? ⟨b, j * 2, none⟩ = some (.int .i64 h) ∧ ∃ a c, w.cell? ⟨b, j * 2 + 1, none⟩ = some (.slice a ts.length c) ∧ ts.length ≤ c ∧ c ≤ maxLen ∧
      ((old b j ∧ (ts = [] ∨ ∃ b' o', a = some ⟨b', o', none⟩ ∧ b' < n₀ ∧ IsRow n₀ w ts b' o')) ∨ (¬ old b j ∧ (ts = [] ∨ ∃ b', a = some ⟨b', 0, none⟩ ∧ lo ≤ b' ∧ Blk w b' ∧ NRow n₀ lo w old ts b' 0)))
def NRow (n₀ lo : Nat) (w : World) (old : Nat → Nat → Prop) : List T → Nat → Nat → Prop
  | [], _, _ => True
  | t :: ts, b, j => NT n₀ lo w old t b j ∧ NRow n₀ lo w old ts b (j + 1)
end

theorem nrow_old {n₀ lo : Nat} {w : World} {old : Nat → Nat → Prop} {g : Nat} : (ts : List T) → ∀ {j : Nat}, (∀ j', j ≤ j' → j' < j + ts.length → old g j') → IsRow n₀ w ts g (j * 2) → NRow n₀ lo w old ts g j
  | [], j, _, _ => by simp [NRow]
  | .node h us :: ts, j, ho, hr => by
    simp only [IsRow, IsT] at hr
    obtain ⟨⟨h1, h2, a, c, h3, h4, h5, h6⟩, hr⟩ := hr
    simp only [NRow, NT]
    exact ⟨⟨h1, h2, a, c, h3, h4, h5, .inl ⟨ho j (Nat.le_refl _) (by simp), h6⟩⟩, nrow_old ts (fun j' h1 h2 => ho j' (by omega) (by simp; omega)) (by rw [show (j + 1) * 2 = j * 2 + 2 from by omega]; exact hr)⟩

mutual
theorem nt_done {n₀ lo : Nat} {w : World} {old : Nat → Nat → Prop} (ho : ∀ b j, ¬ old b j) : (t : T) → ∀ {b j : Nat}, NT n₀ lo w old t b j → IsTp (fun b => lo ≤ b ∧ Blk w b) w t b (j * 2)
  | .node h ts, b, j, hn => by
    simp only [NT] at hn
    obtain ⟨h1, h2, a, c, h3, h4, h5, h6⟩ := hn
    simp only [IsTp]
    refine ⟨h1, h2, a, c, h3, h4, h5, ?_⟩
    rcases h6 with ⟨h6, _⟩ | ⟨_, h6⟩
    · exact absurd h6 (ho b j)
    · exact h6.imp id fun ⟨b', e, hl, hb, hr⟩ => ⟨b', 0, e, ⟨hl, hb⟩, nrow_done ho ts hr⟩
theorem nrow_done {n₀ lo : Nat} {w : World} {old : Nat → Nat → Prop} (ho : ∀ b j, ¬ old b j) : (ts : List T) → ∀ {b j : Nat}, NRow n₀ lo w old ts b j → IsRowp (fun b => lo ≤ b ∧ Blk w b) w ts b (j * 2)
  | [], b, j, _ => by simp [IsRowp]
  | t :: ts, b, j, hn => by
    simp only [NRow] at hn
    simp only [IsRowp]
    have := nrow_done ho ts hn.2
    rw [show (j + 1) * 2 = j * 2 + 2 from by omega] at this
    exact ⟨nt_done ho t hn.1, this⟩
end

/-- Which arguments are old behind a step: those that were but for one, and all of the new block. -/
def oldStep (old : Nat → Nat → Prop) (b i : Nat) (a2 : Option Addr) (us : List T) (b0 j0 : Nat) : Prop := (old b0 j0 ∧ ¬ (b0 = b ∧ j0 = i)) ∨ (j0 < us.length ∧ a2 = some ⟨b0, 0, none⟩)

section
variable {n₀ lo : Nat} {wr w4 w5 : World} {old : Nat → Nat → Prop} {b i : Nat} {s : T} {a2 : Option Addr} {c2 : Nat}
  (hold : old b i) (hbn : n₀ ≤ b) (hbr : b < wr.heap.size) (hlo : lo ≤ wr.heap.size) (hB : Below wr.heap.size wr w4) (hn : n₀ ≤ wr.heap.size)
  (hs : IsT n₀ wr s b (i * 2)) (hN : NewRow n₀ wr.heap.size w4 s.args a2 c2) (he : w5 = w4.setCell ⟨b, i * 2 + 1, none⟩ (.slice a2 s.args.length c2))
include hold hbn hbr hlo hB hn hs hN he
mutual
theorem nt_step : (t : T) → ∀ {b0 j0 : Nat}, NT n₀ lo wr old t b0 j0 → NT n₀ lo w5 (oldStep old b i a2 s.args) t b0 j0
  | .node h ts, b0, j0, hnt => by
    simp only [NT] at hnt ⊢
    obtain ⟨h1, h2, a, c, h3, h4, h5, h6⟩ := hnt
    have hb0 : b0 < wr.heap.size := World.block_lt_of_cell? wr ⟨b0, j0 * 2, none⟩ h2
    have hother : ∀ o, ¬ (b0 = b ∧ o = i * 2 + 1) → w5.cell? ⟨b0, o, none⟩ = wr.cell? ⟨b0, o, none⟩ := fun o ho => by
      rw [he, World.cell?_setCell_other _ _ _ _ (by intro e; simp at e; exact ho ⟨e.1.symm, e.2.symm⟩), hB.cell (p := ⟨b0, o, none⟩) hb0]
    have hkeep : ∀ k, k < n₀ → w5.heap[k]? = wr.heap[k]? := fun k hk => by
      rw [he, Below.heap_setCell _ _ _ _ (by simp; omega), hB.block k (by omega)]
    have hkr : ∀ {us : List T} {b' o' : Nat}, b' < n₀ → IsRow n₀ wr us b' o' → IsRow n₀ w5 us b' o' := fun {us b' o'} hb' hr =>
      (isRowp_lt us).1 (IsRowp.keep hkeep (fun _ h => h) us (hkeep b' hb') ((isRowp_lt us).2 hr))
    have hfresh : ∀ b1 j1, b1 < wr.heap.size → ¬ (j1 < s.args.length ∧ a2 = some ⟨b1, 0, none⟩) := fun b1 j1 hb1 ⟨hne, e⟩ => by
      rcases hN.2.2 with h | ⟨g, cur, h7, h8, _⟩
      · rw [h] at hne; simp at hne
      · rw [e] at h7; simp at h7 <;> omega
    by_cases hme : b0 = b ∧ j0 = i
    · obtain ⟨rfl, rfl⟩ := hme
      obtain ⟨_, q1, a', c', q2, hA⟩ := isT_iff.1 hs
      rw [h3] at q2
      simp at q2
      obtain ⟨e1, e2, e3⟩ := q2
      subst e1
      rcases h6 with ⟨_, h6⟩ | ⟨h6, _⟩
      · have hts : ts = s.args := by
          rcases h6 with rfl | ⟨b', o', rfl, _, hr⟩
          · exact (List.eq_nil_of_length_eq_zero (by simpa using e2.symm)).symm
          · rcases hA.2.2 with h | ⟨b2, o2, e, _, hr2⟩
            · rw [h] at e2 ⊢; exact List.eq_nil_of_length_eq_zero (by simpa using e2)
            · cases e; exact isRow_fun ts e2 hr hr2
        subst hts
        have hcell : w5.cell? ⟨b0, j0 * 2 + 1, none⟩ = some (.slice a2 s.args.length c2) := by
          rw [he]; exact World.cell?_setCell_same' _ _ _ (by rw [(hB.cell (p := ⟨b0, j0 * 2 + 1, none⟩) hb0).trans h3]; rfl)
        refine ⟨h1, (hother _ (by omega)).trans h2, a2, c2, hcell, hN.1, hN.2.1, .inr ⟨?_, ?_⟩⟩
        · rintro (h | h)
          · exact h.2 ⟨rfl, rfl⟩
          · exact hfresh b0 j0 hb0 h
        · rcases hN.2.2 with h | ⟨g, cur, h7, h8, h9, h10, h11⟩
          · exact .inl h
          · by_cases hnil : s.args = []
            · exact .inl hnil
            · refine .inr ⟨g, h7, by omega, by rw [he]; exact Blk.setCell ⟨cur, h9⟩, nrow_old s.args (fun j _ hj => .inr ⟨by simpa using hj, h7⟩) ?_⟩
              have hk4 : ∀ k, k < n₀ → w5.heap[k]? = w4.heap[k]? := fun k hk => by rw [he, Below.heap_setCell _ _ _ _ (by simp; omega)]
              have : IsRow n₀ w5 s.args g 0 := (isRowp_lt s.args).1 (IsRowp.keep hk4 (fun _ h => h) s.args (by rw [he, Below.heap_setCell _ _ _ _ (by simp; omega)]) ((isRowp_lt s.args).2 h11))
              simpa using this
      · exact absurd hold h6
    · refine ⟨h1, (hother _ (by omega)).trans h2, a, c, (hother _ (by intro e; exact hme ⟨e.1, by omega⟩)).trans h3, h4, h5, ?_⟩
      rcases h6 with ⟨ho, h6⟩ | ⟨ho, h6⟩
      · exact .inl ⟨.inl ⟨ho, hme⟩, h6.imp id fun ⟨b', o', e, hb', hr⟩ => ⟨b', o', e, hb', hkr hb' hr⟩⟩
      · refine .inr ⟨?_, h6.imp id fun ⟨b', e, hl, hbk, hr⟩ => ⟨b', e, hl, ?_, nrow_step ts hr⟩⟩
        · rintro (h | h)
          · exact ho h.1
          · exact hfresh b0 j0 hb0 h
        · rw [he]; exact Blk.setCell (hbk.block (hB.block b' hbk.lt))
theorem nrow_step : (ts : List T) → ∀ {b0 j0 : Nat}, NRow n₀ lo wr old ts b0 j0 → NRow n₀ lo w5 (oldStep old b i a2 s.args) ts b0 j0
  | [], b0, j0, _ => by simp [NRow]
  | t :: ts, b0, j0, hn' => by
    simp only [NRow] at hn' ⊢
    exact ⟨nt_step t hn'.1, nrow_step ts hn'.2⟩
end
end

mutual
theorem nt_iff {n₀ lo : Nat} {w : World} {old old' : Nat → Nat → Prop} (h : ∀ b j, old b j ↔ old' b j) : (t : T) → ∀ {b j : Nat}, NT n₀ lo w old t b j → NT n₀ lo w old' t b j
  | .node x ts, b, j, hn => by
    simp only [NT] at hn ⊢
    obtain ⟨h1, h2, a, c, h3, h4, h5, h6⟩ := hn
    refine ⟨h1, h2, a, c, h3, h4, h5, ?_⟩
    rcases h6 with ⟨h6, h7⟩ | ⟨h6, h7⟩
    · exact .inl ⟨(h b j).1 h6, h7⟩
    · exact .inr ⟨fun e => h6 ((h b j).2 e), h7.imp id fun ⟨b', e, hl, hb, hr⟩ => ⟨b', e, hl, hb, nrow_iff h ts hr⟩⟩
theorem nrow_iff {n₀ lo : Nat} {w : World} {old old' : Nat → Nat → Prop} (h : ∀ b j, old b j ↔ old' b j) : (ts : List T) → ∀ {b j : Nat}, NRow n₀ lo w old ts b j → NRow n₀ lo w old' ts b j
  | [], b, j, _ => by simp [NRow]
  | t :: ts, b, j, hn => by
    simp only [NRow] at hn ⊢
    exact ⟨nt_iff h t hn.1, nrow_iff h ts hn.2⟩
end

mutual
theorem nt_below {n₀ lo : Nat} {w w' : World} {old : Nat → Nat → Prop} (h : ∀ b, (b < n₀ ∨ Blk w b) → w'.heap[b]? = w.heap[b]?) : (t : T) → ∀ {b j : Nat}, Blk w b → NT n₀ lo w old t b j → NT n₀ lo w' old t b j
  | .node x ts, b, j, hb, hn => by
    simp only [NT] at hn ⊢
    obtain ⟨h1, h2, a, c, h3, h4, h5, h6⟩ := hn
    have hbb := h b (.inr hb)
    refine ⟨h1, (World.cell?_of_block (a := ⟨b, j * 2, none⟩) hbb).trans h2, a, c, (World.cell?_of_block (a := ⟨b, j * 2 + 1, none⟩) hbb).trans h3, h4, h5, ?_⟩
    rcases h6 with ⟨h6, h7⟩ | ⟨h6, h7⟩
    · exact .inl ⟨h6, h7.imp id fun ⟨b', o', e, hl, hr⟩ => ⟨b', o', e, hl, (isRowp_lt ts).1 (IsRowp.keep (fun k hk => h k (.inl hk)) (fun _ h => h) ts (h b' (.inl hl)) ((isRowp_lt ts).2 hr))⟩⟩
    · exact .inr ⟨h6, h7.imp id fun ⟨b', e, hl, hk, hr⟩ => ⟨b', e, hl, hk.block (h b' (.inr hk)), nrow_below h ts hk hr⟩⟩
theorem nrow_below {n₀ lo : Nat} {w w' : World} {old : Nat → Nat → Prop} (h : ∀ b, (b < n₀ ∨ Blk w b) → w'.heap[b]? = w.heap[b]?) : (ts : List T) → ∀ {b j : Nat}, Blk w b → NRow n₀ lo w old ts b j → NRow n₀ lo w' old ts b j
  | [], b, j, _, _ => by simp [NRow]
  | t :: ts, b, j, hb, hn => by
    simp only [NRow] at hn ⊢
    exact ⟨nt_below h t hb hn.1, nrow_below h ts hb hn.2⟩
end

end Go.Proofs.Ytfkaecjdncjggaa
