/- QBc: joined of Cl0, Clone, Tp. -/
import Derived.Test.YtleohdddaadbeaaGreatLeaf
import Derived.Test.YtleohdddaadbeaaGreatSub
import Derived.Lib.SliceRun
import Derived.Test.YtleohdddaadbeaaGreatTm
/- Rows of terms in blocks of their own. -/
namespace Go.Proofs.YtleohdddaadbeaaGreat
set_option linter.unusedVariables false
set_option linter.unusedSimpArgs false
open Go.RowKit

theorem infoTerm : (Tryz.prog.info? 25).map (fun i => (i.zero, i.size, i.bytes)) = some (some (.agg #[.int .i64 0, .slice none 0 0]), 2, 32) := by kernel_rfl

/-- A slice of terms in a block of its own, not below lo, that begins with the slice. -/
def NewRow (n₀ lo : Nat) (w : World) (ts : List T) (a : Option Addr) (c : Nat) : Prop :=
  ts.length ≤ c ∧ c ≤ maxLen ∧ (ts = [] ∨ ∃ g cur, a = some ⟨g, 0, none⟩ ∧ lo ≤ g ∧ w.heap[g]? = some (.cells cur 25 (0, 0)) ∧ cur.size = c * 2 ∧ IsRow n₀ w ts g 0)

theorem row_cells {n₀ : Nat} {w : World} : ∀ (ts : List T) (b o : Nat), IsRow n₀ w ts b o → ∃ news : List Value, news.length = ts.length * 2 ∧ (∀ j u, news[j]? = some u → w.cell? ⟨b, o + j, none⟩ = some u) ∧ (∀ u ∈ news, u.oneCell' = true) ∧
    ∀ (W : World) (g q : Nat), Below n₀ w W → (∀ j u, news[j]? = some u → W.cell? ⟨g, q + j, none⟩ = some u) → IsRow n₀ W ts g q := by
  intro ts
  induction ts with
  | nil => intro b o _; exact ⟨[], rfl, by simp, by simp, fun _ _ _ _ _ => trivial⟩
  | cons t ts ih =>
    intro b o h
    simp only [IsRow] at h
    obtain ⟨ht, hr⟩ := h
    obtain ⟨news, hl, hc, h1, hW⟩ := ih b (o + 2) hr
    obtain ⟨wf, p1, a, c, p2, hA⟩ := isT_iff.1 ht
    refine ⟨.int .i64 t.head :: .slice a t.args.length c :: news, by simp [hl]; omega, ?_, ?_, ?_⟩
    · intro j u hj
      match j, hj with
      | 0, hj => simp at hj; subst hj; exact p1
      | 1, hj => simp at hj; subst hj; exact p2
      | j + 2, hj => rw [show o + (j + 2) = o + 2 + j from by omega]; exact hc j u (by simpa using hj)
    · intro u hu
      simp at hu
      rcases hu with rfl | rfl | hu
      · rfl
      · rfl
      · exact h1 u hu
    · intro W g q hB hcell
      simp only [IsRow]
      refine ⟨isT_iff.2 ⟨wf, by simpa using hcell 0 _ rfl, a, c, hcell 1 _ rfl, hA.below hB⟩, hW W g (q + 2) hB (fun j u hj => ?_)⟩
      rw [show q + 2 + j = q + (j + 2) from by omega]
      exact hcell (j + 2) u (by simpa using hj)

def ClonePost (n₀ : Nat) (ts : List T) (w : World) (e : Ending) (w' : World) : Prop := ∃ a2 c2, e = .returned (.slice a2 ts.length c2) ∧ NewRow n₀ w.heap.size w' ts a2 c2 ∧ Below w.heap.size w w'

theorem newRow_of_owns {n₀ base : Nat} {w w' : World} {v : Value} {ts : List T} {news : List Value} (hb : Below n₀ w w') (hown : w'.ownsRow base 25 2 v ts.length news)
    (hW : ∀ (W : World) (g q : Nat), Below n₀ w W → (∀ j u, news[j]? = some u → W.cell? ⟨g, q + j, none⟩ = some u) → IsRow n₀ W ts g q) : ∃ a2 c2, v = .slice a2 ts.length c2 ∧ NewRow n₀ base w' ts a2 c2 := by
  have hcells := fun g hg => hown.cells (g := g) hg
  rcases hown.2 with ⟨rfl, h0⟩ | ⟨g, cap, cur, rfl, hg, hh, hn, hc, hs, _⟩
  · exact ⟨none, 0, by rw [h0], by omega, by simp [maxLen], .inl (List.eq_nil_of_length_eq_zero h0)⟩
  · refine ⟨_, cap, rfl, hn, hc, .inr ⟨g, cur, rfl, hg, hh, hs, hW w' g 0 hb (fun j u hj => ?_)⟩⟩
    have := hcells g rfl j u hj
    rw [show ((⟨g, 0, none⟩ : Addr).add j) = ⟨g, 0 + j, none⟩ from by unfold Addr.add; split <;> simp_all] at this
    exact this

end Go.Proofs.YtleohdddaadbeaaGreat

/- Contract of slices.Clone, at slices of terms. -/
namespace Go.Proofs.YtleohdddaadbeaaGreat
set_option linter.unusedVariables false
set_option linter.unusedSimpArgs false
open Go.RowKit

set_option maxRecDepth 100000 in
set_option maxHeartbeats 1000000 in
theorem cloneN_any (ts : List T) (hts : ts.length ≤ 1000000000000) (n₀ : Nat) (a : Option Addr) (c : Nat) (w : World) (hn : n₀ ≤ w.heap.size) (hA : IsArgs n₀ w ts a c) :
    Calls Tryz.prog 41 #[.slice a ts.length c] w fun e w' => ∃ a2 c2, e = .returned (.slice a2 ts.length c2) ∧ NewRow n₀ w.heap.size w' ts a2 c2 ∧ Below w.heap.size w w' ∧ (a2 = none → c2 = 0) := by
  have q22 : ∀ (w : World) (a : Option Addr) (n c n' c' : Nat), (binOp .eql 23 (.slice a n c) (.slice none n' c')).run Tryz.prog w = .ok (.bool a.isNone) w := fun w a n c n' c' => Lib.run_eql_slice_nil w _ _ a n c n' c' Tryz.underlying23
  cases a with
  | none =>
    have h0 : ts = [] := by rcases hA.2.2 with h | ⟨_, _, h, _⟩; exact h; cases h
    subst h0
    go_enter Tryz.func41, Tryz.ntmps41
    go_wp2
    go_ret
    exact ⟨none, 0, rfl, ⟨by simp, by simp [maxLen], .inl rfl⟩, Below.refl _ _, fun _ => rfl⟩
  | some ad =>
    have hnews : ∃ news : List Value, news.length = ts.length * 2 ∧ (∀ j u, news[j]? = some u → w.cell? (ad.add j) = some u) ∧ (∀ u ∈ news, u.oneCell' = true) ∧
        ∀ (W : World) (g q : Nat), Below n₀ w W → (∀ j u, news[j]? = some u → W.cell? ⟨g, q + j, none⟩ = some u) → IsRow n₀ W ts g q := by
      rcases hA.2.2 with rfl | ⟨b, o, h, hb, hrow⟩
      · exact ⟨[], rfl, by simp, by simp, fun _ _ _ _ _ => trivial⟩
      · cases h
        obtain ⟨news, h1, h2, h3, h4⟩ := row_cells ts b o hrow
        exact ⟨news, h1, fun j u hj => by rw [show ((⟨b, o, none⟩ : Addr).add j) = ⟨b, o + j, none⟩ from by unfold Addr.add; split <;> simp_all]; exact h2 j u hj, h3, h4⟩
    obtain ⟨news, h1, h2, h3, h4⟩ := hnews
    have hlt : ∀ j u, news[j]? = some u → (ad.add j).block < w.heap.size := fun j u hj => World.block_lt_of_cell? w _ (h2 j u hj)
    have H2 := Lib.hid h2
    have H3 := Lib.hid h3
    have H4 := Lib.hid h4
    have H1 := Lib.hid h1
    have HLT := Lib.hid hlt
    obtain ⟨i0, hi, hz0, hz1, hz2⟩ := info_parts infoTerm
    clear h1 h2 h3 h4 hA hlt
    go_enter Tryz.func41, Tryz.ntmps41
    go_wp2_with (at_builtin; refine stopHere ?_)
    refine Lib.hid ?_
    refine wpList_append_own _ rfl _ _ 23 rfl w.heap.size 25 i0 (.agg #[.int .i64 0, .slice none 0 0]) 2 32 Tryz.underlying23 hi hz0 hz1 hz2 rfl (by decide) (.slice (some ⟨w.heap.size, 0, none⟩) 0 0) 0 [] rfl
      (World.ownsRow_made w #[] 0 (Nat.le_refl _) (by simp [maxLen]) rfl) ad ts.length c news rfl H1.out (fun j u hj => (World.cell?_of_block (Below.heap_alloc w _ _ (HLT.out j u hj))).trans (H2.out j u hj)) H3.out (by unfold maxLen; omega) (by omega) (by simp) ?_
    intro v' w2 hown hgr _
    have hb2 : Below w.heap.size w w2 := ((Below.refl _ w).alloc (Nat.le_refl _) _).grown hgr (by simp) (by intro k hk; simp [Value.ownBlock] at hk; omega)
    have HB := Lib.hid hb2
    have HO := Lib.hid hown
    clear hown hgr hb2
    go_wp2
    go_ret
    have hown := HO.out
    simp only [Nat.zero_add, List.nil_append] at hown
    obtain ⟨a2, c2, e, hr⟩ := newRow_of_owns (HB.out.mono hn) hown H4.out
    refine ⟨a2, c2, ?_, hr, HB.out, ?_⟩
    · subst e
      rfl
    · intro hn
      subst hn
      rcases hown.2 with ⟨h, _⟩ | ⟨g, cap, cur, h, _⟩
      · rw [e] at h; simp at h; exact h.2
      · rw [e] at h; simp at h
theorem clone_any (ts : List T) (hts : ts.length ≤ 1000000000000) (n₀ : Nat) (a : Option Addr) (c : Nat) (w : World) (hn : n₀ ≤ w.heap.size) (hA : IsArgs n₀ w ts a c) :
    Calls Tryz.prog 41 #[.slice a ts.length c] w (ClonePost n₀ ts w) :=
  (cloneN_any ts hts n₀ a c w hn hA).mono fun _ _ ⟨a2, c2, h1, h2, h3, _⟩ => ⟨a2, c2, h1, h2, h3⟩

end Go.Proofs.YtleohdddaadbeaaGreat

/- Tp: joined of Tp, Pos. -/
/- Terms in memory whose blocks meet a condition: plain definitions and lemmas; no program is named here. -/
namespace Go.Proofs.YtleohdddaadbeaaGreat
set_option linter.unusedVariables false
set_option linter.unusedSimpArgs false
open Go.RowKit

mutual
def IsTp (ok : Nat → Prop) (w : World) : T → Nat → Nat → Prop
  | .node h ts, b, o => (Lit.int .i64 h).wf = true ∧ w.cell? ⟨b, o, none⟩ = some (.int .i64 h) ∧ ∃ a c, w.cell? ⟨b, o + 1, none⟩ = some (.slice a ts.length c) ∧ ts.length ≤ c ∧ c ≤ maxLen ∧
      (ts = [] ∨ ∃ b' o', a = some ⟨b', o', none⟩ ∧ ok b' ∧ IsRowp ok w ts b' o')
def IsRowp (ok : Nat → Prop) (w : World) : List T → Nat → Nat → Prop
  | [], _, _ => True
  | t :: ts, b, o => IsTp ok w t b o ∧ IsRowp ok w ts b (o + 2)
end
def IsArgsp (ok : Nat → Prop) (w : World) (ts : List T) (a : Option Addr) (c : Nat) : Prop :=
  ts.length ≤ c ∧ c ≤ maxLen ∧ (ts = [] ∨ ∃ b o, a = some ⟨b, o, none⟩ ∧ ok b ∧ IsRowp ok w ts b o)

theorem isTp_iff {ok : Nat → Prop} {w : World} {t : T} {b o : Nat} : IsTp ok w t b o ↔ (Lit.int .i64 t.head).wf = true ∧ w.cell? ⟨b, o, none⟩ = some (.int .i64 t.head) ∧ ∃ a c, w.cell? ⟨b, o + 1, none⟩ = some (.slice a t.args.length c) ∧ IsArgsp ok w t.args a c := by
  cases t; simp [IsTp, T.head, T.args, IsArgsp]

mutual
theorem IsTp.keep {ok ok' : Nat → Prop} {w w' : World} (h : ∀ b, ok b → w'.heap[b]? = w.heap[b]?) (hm : ∀ b, ok b → ok' b) : (t : T) → ∀ {b o : Nat}, w'.heap[b]? = w.heap[b]? → IsTp ok w t b o → IsTp ok' w' t b o
  | .node x ts, b, o, hb, ht => by
    simp only [IsTp] at ht ⊢
    obtain ⟨h0, h1, a, c, h2, h3, h4, h5⟩ := ht
    refine ⟨h0, (World.cell?_of_block (a := ⟨b, o, none⟩) hb).trans h1, a, c, (World.cell?_of_block (a := ⟨b, o + 1, none⟩) hb).trans h2, h3, h4, ?_⟩
    rcases h5 with h5 | ⟨b', o', h5, h6, h7⟩
    · exact .inl h5
    · exact .inr ⟨b', o', h5, hm _ h6, IsRowp.keep h hm ts (h b' h6) h7⟩
theorem IsRowp.keep {ok ok' : Nat → Prop} {w w' : World} (h : ∀ b, ok b → w'.heap[b]? = w.heap[b]?) (hm : ∀ b, ok b → ok' b) : (ts : List T) → ∀ {b o : Nat}, w'.heap[b]? = w.heap[b]? → IsRowp ok w ts b o → IsRowp ok' w' ts b o
  | [], b, o, hb, ht => by simp [IsRowp]
  | t :: ts, b, o, hb, ht => by
    simp only [IsRowp] at ht ⊢
    exact ⟨IsTp.keep h hm t hb ht.1, IsRowp.keep h hm ts hb ht.2⟩
end
theorem IsArgsp.keep {ok ok' : Nat → Prop} {w w' : World} {ts : List T} {a : Option Addr} {c : Nat} (ht : IsArgsp ok w ts a c) (h : ∀ b, ok b → w'.heap[b]? = w.heap[b]?) (hm : ∀ b, ok b → ok' b) : IsArgsp ok' w' ts a c := by
  obtain ⟨h1, h2, h3⟩ := ht
  refine ⟨h1, h2, ?_⟩
  rcases h3 with h3 | ⟨b, o, h3, h4, h5⟩
  · exact .inl h3
  · exact .inr ⟨b, o, h3, hm _ h4, IsRowp.keep h hm ts (h b h4) h5⟩
theorem IsArgsp.mono {ok ok' : Nat → Prop} {w : World} {ts : List T} {a : Option Addr} {c : Nat} (ht : IsArgsp ok w ts a c) (hm : ∀ b, ok b → ok' b) : IsArgsp ok' w ts a c := ht.keep (fun _ _ => rfl) hm

mutual
theorem isTp_lt {n₀ : Nat} {w : World} : (t : T) → ∀ {b o : Nat}, IsTp (· < n₀) w t b o ↔ IsT n₀ w t b o
  | .node x ts, b, o => by
    simp only [IsTp, IsT]
    constructor
    · rintro ⟨h0, h1, a, c, h2, h3, h4, h5⟩
      exact ⟨h0, h1, a, c, h2, h3, h4, h5.imp id fun ⟨b', o', h6, h7, h8⟩ => ⟨b', o', h6, h7, (isRowp_lt ts).1 h8⟩⟩
    · rintro ⟨h0, h1, a, c, h2, h3, h4, h5⟩
      exact ⟨h0, h1, a, c, h2, h3, h4, h5.imp id fun ⟨b', o', h6, h7, h8⟩ => ⟨b', o', h6, h7, (isRowp_lt ts).2 h8⟩⟩
theorem isRowp_lt {n₀ : Nat} {w : World} : (ts : List T) → ∀ {b o : Nat}, IsRowp (· < n₀) w ts b o ↔ IsRow n₀ w ts b o
  | [], b, o => by simp [IsRowp, IsRow]
  | t :: ts, b, o => by simp only [IsRowp, IsRow]; rw [isTp_lt t, isRowp_lt ts]
end
theorem isArgsp_lt {n₀ : Nat} {w : World} {ts : List T} {a : Option Addr} {c : Nat} : IsArgsp (· < n₀) w ts a c ↔ IsArgs n₀ w ts a c := by
  unfold IsArgsp IsArgs
  constructor
  · rintro ⟨h1, h2, h3⟩
    exact ⟨h1, h2, h3.imp id fun ⟨b', o', h6, h7, h8⟩ => ⟨b', o', h6, h7, (isRowp_lt ts).1 h8⟩⟩
  · rintro ⟨h1, h2, h3⟩
    exact ⟨h1, h2, h3.imp id fun ⟨b', o', h6, h7, h8⟩ => ⟨b', o', h6, h7, (isRowp_lt ts).2 h8⟩⟩
theorem IsArgsp.toArgs {ok : Nat → Prop} {w : World} {ts : List T} {a : Option Addr} {c n : Nat} (h : IsArgsp ok w ts a c) (hm : ∀ b, ok b → b < n) : IsArgs n w ts a c := isArgsp_lt.1 (h.mono hm)

/-- The cells xs are those of the terms ts, one behind the other. -/
def RowVals (ok : Nat → Prop) (w : World) : List T → List Value → Prop
  | [], [] => True
  | t :: ts, h :: s :: xs => (Lit.int .i64 t.head).wf = true ∧ h = .int .i64 t.head ∧ (∃ a c, s = .slice a t.args.length c ∧ IsArgsp ok w t.args a c) ∧ RowVals ok w ts xs
  | _, _ => False

theorem RowVals.keep {ok ok' : Nat → Prop} {w w' : World} (h : ∀ b, ok b → w'.heap[b]? = w.heap[b]?) (hm : ∀ b, ok b → ok' b) : ∀ {ts : List T} {xs : List Value}, RowVals ok w ts xs → RowVals ok' w' ts xs
  | [], [], _ => trivial
  | t :: ts, x :: s :: xs, ⟨h1, h2, ⟨a, c, h3, h4⟩, h5⟩ => ⟨h1, h2, ⟨a, c, h3, h4.keep h hm⟩, RowVals.keep h hm h5⟩
  | [], _ :: _, h => h.elim
  | _ :: _, [], h => h.elim
  | _ :: _, [_], h => h.elim
theorem RowVals.snoc {ok : Nat → Prop} {w : World} {t : T} {a : Option Addr} {c : Nat} (h1 : (Lit.int .i64 t.head).wf = true) (h4 : IsArgsp ok w t.args a c) : ∀ {ts : List T} {xs : List Value}, RowVals ok w ts xs → RowVals ok w (ts ++ [t]) (xs ++ [.int .i64 t.head, .slice a t.args.length c])
  | [], [], _ => ⟨h1, rfl, ⟨a, c, rfl, h4⟩, trivial⟩
  | _ :: _, _ :: _ :: _, ⟨p1, p2, p3, p4⟩ => ⟨p1, p2, p3, RowVals.snoc h1 h4 p4⟩
  | [], _ :: _, h => h.elim
  | _ :: _, [], h => h.elim
  | _ :: _, [_], h => h.elim
theorem RowVals.isRowp {ok : Nat → Prop} {w : World} {g : Nat} : ∀ {ts : List T} {xs : List Value} {q : Nat}, RowVals ok w ts xs → (∀ j u, xs[j]? = some u → w.cell? ⟨g, q + j, none⟩ = some u) → IsRowp ok w ts g q
  | [], [], _, _, _ => trivial
  | t :: ts, x :: s :: xs, q, ⟨h1, h2, ⟨a, c, h3, h4⟩, h5⟩, hc => by
    subst h2 h3
    simp only [IsRowp]
    refine ⟨isTp_iff.2 ⟨h1, by simpa using hc 0 _ rfl, a, c, hc 1 _ rfl, h4⟩, RowVals.isRowp h5 (fun j u hj => ?_)⟩
    rw [show q + 2 + j = q + (j + 2) from by omega]
    exact hc (j + 2) u (by simpa using hj)
  | [], _ :: _, _, h, _ => h.elim
  | _ :: _, [], _, h, _ => h.elim
  | _ :: _, [_], _, h, _ => h.elim
theorem RowVals.length {ok : Nat → Prop} {w : World} : ∀ {ts : List T} {xs : List Value}, RowVals ok w ts xs → xs.length = ts.length * 2
  | [], [], _ => rfl
  | _ :: _, _ :: _ :: _, ⟨_, _, _, p4⟩ => by simp [p4.length]; omega
  | [], _ :: _, h => h.elim
  | _ :: _, [], h => h.elim
  | _ :: _, [_], h => h.elim
theorem rowVals_of {ok : Nat → Prop} {w : World} {b : Nat} : ∀ (ts : List T) (o : Nat), IsRowp ok w ts b o → ∃ xs, RowVals ok w ts xs ∧ (∀ j u, xs[j]? = some u → w.cell? ⟨b, o + j, none⟩ = some u) ∧ (∀ u ∈ xs, u.oneCell' = true) := by
  intro ts
  induction ts with
  | nil => intro o _; exact ⟨[], trivial, by simp, by simp⟩
  | cons t ts ih =>
    intro o h
    simp only [IsRowp] at h
    obtain ⟨xs, h1, h2, h3⟩ := ih (o + 2) h.2
    obtain ⟨wf, p1, a, c, p2, hA⟩ := isTp_iff.1 h.1
    refine ⟨.int .i64 t.head :: .slice a t.args.length c :: xs, ⟨wf, rfl, ⟨a, c, rfl, hA⟩, h1⟩, ?_, ?_⟩
    · intro j u hj
      match j, hj with
      | 0, hj => simp at hj; subst hj; exact p1
      | 1, hj => simp at hj; subst hj; exact p2
      | j + 2, hj => rw [show o + (j + 2) = o + 2 + j from by omega]; exact h2 j u (by simpa using hj)
    · intro u hu
      simp at hu
      rcases hu with rfl | rfl | hu
      · rfl
      · rfl
      · exact h3 u hu

theorem addr_add (b o k : Nat) : (⟨b, o, none⟩ : Addr).add k = ⟨b, o + k, none⟩ := by
  unfold Addr.add; split <;> simp_all

/-- A row of one's own, whose cells are terms, is a slice of terms. -/
theorem argsp_of_owns {ok ok' : Nat → Prop} {w : World} {base : Nat} {e : TypeId} {v : Value} {ts : List T} {xs : List Value} (hown : w.ownsRow base e 2 v ts.length xs) (hr : RowVals ok w ts xs) (hm : ∀ b, ok b → ok' b) (hg : ∀ g, v.ownBlock = some g → ok' g) : ∃ a c, v = .slice a ts.length c ∧ IsArgsp ok' w ts a c := by
  have hcells := fun g hg => hown.cells (g := g) hg
  rcases hown.2 with ⟨rfl, h0⟩ | ⟨g, cap, cur, rfl, hb, hh, hn, hc, hs, _⟩
  · exact ⟨none, 0, by rw [h0], by omega, by simp [maxLen], .inl (List.eq_nil_of_length_eq_zero h0)⟩
  · refine ⟨_, cap, rfl, hn, hc, .inr ⟨g, 0, rfl, hg g rfl, IsRowp.keep (fun _ _ => rfl) hm ts rfl (hr.isRowp (fun j u hj => ?_))⟩⟩
    have := hcells g rfl j u hj
    rw [addr_add] at this
    exact this

end Go.Proofs.YtleohdddaadbeaaGreat

/- Positions in terms, and slices of numbers in memory: plain definitions and lemmas; no program is named here. -/
namespace Go.Proofs.YtleohdddaadbeaaGreat
set_option linter.unusedVariables false
set_option linter.unusedSimpArgs false
open Go.RowKit

/-- The part at a position. -/
def T.at (t : T) : List Int → Option T
  | [] => some t
  | i :: p => if i < 0 ∨ (t.args.length : Int) ≤ i then none else (t.args[i.toNat]?).bind (fun s => s.at p)
theorem T.at_append (t : T) (p q : List Int) : t.at (p ++ q) = (t.at p).bind (fun s => s.at q) := by
  induction p generalizing t with
  | nil => simp [T.at]
  | cons i p ih =>
    simp only [List.cons_append, T.at]
    split
    · rfl
    · cases t.args[i.toNat]? with
      | none => rfl
      | some s => simp [ih]
theorem T.at_one {s : T} {i : Int} (h0 : 0 ≤ i) (h1 : i < s.args.length) {x : T} (hx : s.args[i.toNat]? = some x) : s.at [i] = some x := by
  simp [T.at, hx]; omega
theorem T.at_one_none {s : T} {i : Int} (h : i < 0 ∨ (s.args.length : Int) ≤ i) : s.at [i] = none := by
  simp [T.at, h]
theorem T.at_take {t s : T} {p : List Int} {k : Nat} {i : Int} (h : t.at (p.take k) = some s) (hi : p[k]? = some i) : t.at (p.take (k + 1)) = s.at [i] := by
  obtain ⟨hk, e⟩ := List.getElem?_eq_some_iff.1 hi
  rw [List.take_succ_eq_append_getElem hk, T.at_append, h, e]; rfl
theorem T.at_none {t s : T} {p : List Int} {k : Nat} {i : Int} (h : t.at (p.take k) = some s) (hi : p[k]? = some i) (hn : s.at [i] = none) : t.at p = none := by
  have h1 := T.at_take h hi
  rw [hn] at h1
  have h2 := T.at_append t (p.take (k + 1)) (p.drop (k + 1))
  rw [List.take_append_drop, h1] at h2
  exact h2
theorem T.at_size {t s : T} {p : List Int} (h : t.at p = some s) : s.size ≤ t.size := by
  induction p generalizing t with
  | nil => simp [T.at] at h; subst h; exact Nat.le_refl _
  | cons i p ih =>
    simp only [T.at] at h
    split at h
    · cases h
    · cases hx : t.args[i.toNat]? with
      | none => rw [hx] at h; cases h
      | some x => rw [hx] at h; have h1 := ih h; have h2 := T.size_lt_of_mem hx; have h3 := T.size_eq t; omega

/-- With another part put there. -/
def T.put (t : T) (u : T) : List Int → T
  | [] => u
  | i :: p => .node t.head (t.args.modify i.toNat (fun s => s.put u p))

/-- All positions, as they are listed. -/
def behind (i : Nat) (l : List (List Int)) : List (List Int) := l.map (fun p => (i : Int) :: p)
mutual
def T.all : T → List (List Int)
  | .node _ ts => [] :: T.alls 0 ts
def T.alls (i : Nat) : List T → List (List Int)
  | [] => []
  | t :: ts => behind i t.all ++ T.alls (i + 1) ts
end

/-- A slice of numbers in memory. -/
def IsIs (n₀ : Nat) (w : World) (zs : List Int) (a : Option Addr) (c : Nat) : Prop :=
  zs.length ≤ c ∧ c ≤ maxLen ∧ (zs = [] ∨ ∃ b o, a = some ⟨b, o, none⟩ ∧ b < n₀ ∧ ∀ (j : Nat) (z : Int), zs[j]? = some z → w.cell? ⟨b, o + j, none⟩ = some (.int .i64 z))
theorem IsIs.keep {n₀ n₁ : Nat} {w w' : World} {zs : List Int} {a : Option Addr} {c : Nat} (h : IsIs n₀ w zs a c) (hb : ∀ b, b < n₀ → w'.heap[b]? = w.heap[b]?) (hn : n₀ ≤ n₁) : IsIs n₁ w' zs a c := by
  obtain ⟨h1, h2, h3⟩ := h
  refine ⟨h1, h2, ?_⟩
  rcases h3 with h3 | ⟨b, o, h4, h5, h6⟩
  · exact .inl h3
  · exact .inr ⟨b, o, h4, by omega, fun j z hz => (World.cell?_of_block (a := ⟨b, o + j, none⟩) (hb b h5)).trans (h6 j z hz)⟩
theorem IsIs.below {n₀ : Nat} {w w' : World} {zs : List Int} {a : Option Addr} {c : Nat} (h : IsIs n₀ w zs a c) (hb : Below n₀ w w') : IsIs n₀ w' zs a c := h.keep (fun b h => hb.block b h) (Nat.le_refl _)
theorem IsIs.mono {n₀ n₁ : Nat} {w : World} {zs : List Int} {a : Option Addr} {c : Nat} (h : IsIs n₀ w zs a c) (hn : n₀ ≤ n₁) : IsIs n₁ w zs a c := h.keep (fun _ _ => rfl) hn
theorem IsIs.elem {n₀ : Nat} {w : World} {zs : List Int} {a : Option Addr} {c : Nat} (h : IsIs n₀ w zs a c) {k : Nat} (hk : k < zs.length) : ∃ (b o : Nat) (z : Int), a = some ⟨b, o, none⟩ ∧ b < n₀ ∧ zs[k]? = some z ∧ w.cell? ⟨b, o + k, none⟩ = some (.int .i64 z) := by
  rcases h.2.2 with rfl | ⟨b, o, h4, h5, h6⟩
  · simp at hk
  · exact ⟨b, o, zs[k], h4, h5, List.getElem?_eq_getElem hk, h6 k _ (List.getElem?_eq_getElem hk)⟩

end Go.Proofs.YtleohdddaadbeaaGreat
