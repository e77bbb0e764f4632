/- QBf: joined of Cl0, Clone, Tp, Cn0, Lt0, Sg. -/
import Derived.Test.YtbdabdjpgmnejaaGreatQBb
import Derived.Lib.SliceRun
import Derived.Test.YtbdabdjpgmnejaaGreatQBa
import Derived.Test.YtbdabdjpgmnejaaGreatQBd
import Derived.Laws.AppendOwnNone
/- Rows of terms in blocks of their own. -/
namespace Go.Proofs.YtbdabdjpgmnejaaGreat
set_option linter.unusedVariables false
set_option linter.unusedSimpArgs false
open Go.RowKit

theorem infoTerm : (Tryz.prog.info? 34).map (fun i => (i.zero, i.size, i.bytes)) = some (some (.agg #[.int .i64 0, .slice none 0 0]), 2, 32) := by kernel_rfl

/-- A slice of terms in a block of its own, not below lo, that begins with the slice. -/
def NewRow (n₀ lo : Nat) (w : World) (ts : List T) (a : Option Addr) (c : Nat) : Prop :=
  ts.length ≤ c ∧ c ≤ maxLen ∧ (ts = [] ∨ ∃ g cur, a = some ⟨g, 0, none⟩ ∧ lo ≤ g ∧ w.heap[g]? = some (.cells cur 34 (0, 0)) ∧ cur.size = c * 2 ∧ IsRow n₀ w ts g 0)

theorem row_cells {n₀ : Nat} {w : World} : ∀ (ts : List T) (b o : Nat), IsRow n₀ w ts b o → ∃ news : List Value, news.length = ts.length * 2 ∧ (∀ j u, news[j]? = some u → w.cell? ⟨b, o + j, none⟩ = some u) ∧ (∀ u ∈ news, u.oneCell' = true) ∧
    ∀ (W : World) (g q : Nat), Below n₀ w W → (∀ j u, news[j]? = some u → W.cell? ⟨g, q + j, none⟩ = some u) → IsRow n₀ W ts g q := by
  intro ts
  induction ts with
  | nil => intro b o _; exact ⟨[], rfl, by simp, by simp, fun _ _ _ _ _ => trivial⟩
  | cons t ts ih =>
    intro b o h
    simp only [IsRow] at h
    obtain ⟨ht, hr⟩ := h
    obtain ⟨news, hl, hc, h1, hW⟩ := ih b (o + 2) hr
    obtain ⟨wf, p1, a, c, p2, hA⟩ := isT_iff.1 ht
    refine ⟨.int .i64 t.head :: .slice a t.args.length c :: news, by simp [hl]; omega, ?_, ?_, ?_⟩
    · intro j u hj
      match j, hj with
      | 0, hj => simp at hj; subst hj; exact p1
      | 1, hj => simp at hj; subst hj; exact p2
      | j + 2, hj => rw [show o + (j + 2) = o + 2 + j from by omega]; exact hc j u (by simpa using hj)
    · intro u hu
      simp at hu
      rcases hu with rfl | rfl | hu
      · rfl
      · rfl
      · exact h1 u hu
    · intro W g q hB hcell
      simp only [IsRow]
      refine ⟨isT_iff.2 ⟨wf, by simpa using hcell 0 _ rfl, a, c, hcell 1 _ rfl, hA.below hB⟩, hW W g (q + 2) hB (fun j u hj => ?_)⟩
      rw [show q + 2 + j = q + (j + 2) from by omega]
      exact hcell (j + 2) u (by simpa using hj)

def ClonePost (n₀ : Nat) (ts : List T) (w : World) (e : Ending) (w' : World) : Prop := ∃ a2 c2, e = .returned (.slice a2 ts.length c2) ∧ NewRow n₀ w.heap.size w' ts a2 c2 ∧ Below w.heap.size w w'

theorem newRow_of_owns {n₀ base : Nat} {w w' : World} {v : Value} {ts : List T} {news : List Value} (hb : Below n₀ w w') (hown : w'.ownsRow base 34 2 v ts.length news)
    (hW : ∀ (W : World) (g q : Nat), Below n₀ w W → (∀ j u, news[j]? = some u → W.cell? ⟨g, q + j, none⟩ = some u) → IsRow n₀ W ts g q) : ∃ a2 c2, v = .slice a2 ts.length c2 ∧ NewRow n₀ base w' ts a2 c2 := by
  have hcells := fun g hg => hown.cells (g := g) hg
  rcases hown.2 with ⟨rfl, h0⟩ | ⟨g, cap, cur, rfl, hg, hh, hn, hc, hs, _⟩
  · exact ⟨none, 0, by rw [h0], by omega, by simp [maxLen], .inl (List.eq_nil_of_length_eq_zero h0)⟩
  · refine ⟨_, cap, rfl, hn, hc, .inr ⟨g, cur, rfl, hg, hh, hs, hW w' g 0 hb (fun j u hj => ?_)⟩⟩
    have := hcells g rfl j u hj
    rw [show ((⟨g, 0, none⟩ : Addr).add j) = ⟨g, 0 + j, none⟩ from by unfold Addr.add; split <;> simp_all] at this
    exact this

end Go.Proofs.YtbdabdjpgmnejaaGreat

/- Contract of slices.Clone, at slices of terms. -/
namespace Go.Proofs.YtbdabdjpgmnejaaGreat
set_option linter.unusedVariables false
set_option linter.unusedSimpArgs false
open Go.RowKit

set_option maxRecDepth 100000 in
set_option maxHeartbeats 1000000 in
theorem cloneN_any (ts : List T) (hts : ts.length ≤ 1000000000000) (n₀ : Nat) (a : Option Addr) (c : Nat) (w : World) (hn : n₀ ≤ w.heap.size) (hA : IsArgs n₀ w ts a c) :
    Calls Tryz.prog 117 #[.slice a ts.length c] w fun e w' => ∃ a2 c2, e = .returned (.slice a2 ts.length c2) ∧ NewRow n₀ w.heap.size w' ts a2 c2 ∧ Below w.heap.size w w' ∧ (a2 = none → c2 = 0) := by
  have q22 : ∀ (w : World) (a : Option Addr) (n c n' c' : Nat), (binOp .eql 32 (.slice a n c) (.slice none n' c')).run Tryz.prog w = .ok (.bool a.isNone) w := fun w a n c n' c' => Lib.run_eql_slice_nil w _ _ a n c n' c' Tryz.underlying32
  cases a with
  | none =>
    have h0 : ts = [] := by rcases hA.2.2 with h | ⟨_, _, h, _⟩; exact h; cases h
    subst h0
    go_enter Tryz.func117, Tryz.ntmps117
    go_wp2
    go_ret
    exact ⟨none, 0, rfl, ⟨by simp, by simp [maxLen], .inl rfl⟩, Below.refl _ _, fun _ => rfl⟩
  | some ad =>
    have hnews : ∃ news : List Value, news.length = ts.length * 2 ∧ (∀ j u, news[j]? = some u → w.cell? (ad.add j) = some u) ∧ (∀ u ∈ news, u.oneCell' = true) ∧
        ∀ (W : World) (g q : Nat), Below n₀ w W → (∀ j u, news[j]? = some u → W.cell? ⟨g, q + j, none⟩ = some u) → IsRow n₀ W ts g q := by
      rcases hA.2.2 with rfl | ⟨b, o, h, hb, hrow⟩
      · exact ⟨[], rfl, by simp, by simp, fun _ _ _ _ _ => trivial⟩
      · cases h
        obtain ⟨news, h1, h2, h3, h4⟩ := row_cells ts b o hrow
        exact ⟨news, h1, fun j u hj => by rw [show ((⟨b, o, none⟩ : Addr).add j) = ⟨b, o + j, none⟩ from by unfold Addr.add; split <;> simp_all]; exact h2 j u hj, h3, h4⟩
    obtain ⟨news, h1, h2, h3, h4⟩ := hnews
    have hlt : ∀ j u, news[j]? = some u → (ad.add j).block < w.heap.size := fun j u hj => World.block_lt_of_cell? w _ (h2 j u hj)
    have H2 := Lib.hid h2
    have H3 := Lib.hid h3
    have H4 := Lib.hid h4
    have H1 := Lib.hid h1
    have HLT := Lib.hid hlt
    obtain ⟨i0, hi, hz0, hz1, hz2⟩ := info_parts infoTerm
    clear h1 h2 h3 h4 hA hlt
    go_enter Tryz.func117, Tryz.ntmps117
    go_wp2_with (at_builtin; refine stopHere ?_)
    refine Lib.hid ?_
    refine wpList_append_own _ rfl _ _ 32 rfl w.heap.size 34 i0 (.agg #[.int .i64 0, .slice none 0 0]) 2 32 Tryz.underlying32 hi hz0 hz1 hz2 rfl (by decide) (.slice (some ⟨w.heap.size, 0, none⟩) 0 0) 0 [] rfl
      (World.ownsRow_made w #[] 0 (Nat.le_refl _) (by simp [maxLen]) rfl) ad ts.length c news rfl H1.out (fun j u hj => (World.cell?_of_block (Below.heap_alloc w _ _ (HLT.out j u hj))).trans (H2.out j u hj)) H3.out (by unfold maxLen; omega) (by omega) (by simp) ?_
    intro v' w2 hown hgr _
    have hb2 : Below w.heap.size w w2 := ((Below.refl _ w).alloc (Nat.le_refl _) _).grown hgr (by simp) (by intro k hk; simp [Value.ownBlock] at hk; omega)
    have HB := Lib.hid hb2
    have HO := Lib.hid hown
    clear hown hgr hb2
    go_wp2
    go_ret
    have hown := HO.out
    simp only [Nat.zero_add, List.nil_append] at hown
    obtain ⟨a2, c2, e, hr⟩ := newRow_of_owns (HB.out.mono hn) hown H4.out
    refine ⟨a2, c2, ?_, hr, HB.out, ?_⟩
    · subst e
      rfl
    · intro hn
      subst hn
      rcases hown.2 with ⟨h, _⟩ | ⟨g, cap, cur, h, _⟩
      · rw [e] at h; simp at h; exact h.2
      · rw [e] at h; simp at h
theorem clone_any (ts : List T) (hts : ts.length ≤ 1000000000000) (n₀ : Nat) (a : Option Addr) (c : Nat) (w : World) (hn : n₀ ≤ w.heap.size) (hA : IsArgs n₀ w ts a c) :
    Calls Tryz.prog 117 #[.slice a ts.length c] w (ClonePost n₀ ts w) :=
  (cloneN_any ts hts n₀ a c w hn hA).mono fun _ _ ⟨a2, c2, h1, h2, h3, _⟩ => ⟨a2, c2, h1, h2, h3⟩

end Go.Proofs.YtbdabdjpgmnejaaGreat

/- Tp: joined of Tp, Pos. -/
/- Terms in memory whose blocks meet a condition: plain definitions and lemmas; no program is named here. -/
namespace Go.Proofs.YtbdabdjpgmnejaaGreat
set_option linter.unusedVariables false
set_option linter.unusedSimpArgs false
open Go.RowKit

mutual
def IsTp (ok : Nat → Prop) (w : World) : T → Nat → Nat → Prop
  | .node h ts, b, o => (Lit.int .i64 h).wf = true ∧ w.cell? ⟨b, o, none⟩ = some (.int .i64 h) ∧ ∃ a c, w.cell? ⟨b, o + 1, none⟩ = some (.slice a ts.length c) ∧ ts.length ≤ c ∧ c ≤ maxLen ∧
      (ts = [] ∨ ∃ b' o', a = some ⟨b', o', none⟩ ∧ ok b' ∧ IsRowp ok w ts b' o')
def IsRowp (ok : Nat → Prop) (w : World) : List T → Nat → Nat → Prop
  | [], _, _ => True
  | t :: ts, b, o => IsTp ok w t b o ∧ IsRowp ok w ts b (o + 2)
end
def IsArgsp (ok : Nat → Prop) (w : World) (ts : List T) (a : Option Addr) (c : Nat) : Prop :=
  ts.length ≤ c ∧ c ≤ maxLen ∧ (ts = [] ∨ ∃ b o, a = some ⟨b, o, none⟩ ∧ ok b ∧ IsRowp ok w ts b o)

theorem isTp_iff {ok : Nat → Prop} {w : World} {t : T} {b o : Nat} : IsTp ok w t b o ↔ (Lit.int .i64 t.head).wf = true ∧ w.cell? ⟨b, o, none⟩ = some (.int .i64 t.head) ∧ ∃ a c, w.cell? ⟨b, o + 1, none⟩ = some (.slice a t.args.length c) ∧ IsArgsp ok w t.args a c := by
  cases t; simp [IsTp, T.head, T.args, IsArgsp]

mutual
theorem IsTp.keep {ok ok' : Nat → Prop} {w w' : World} (h : ∀ b, ok b → w'.heap[b]? = w.heap[b]?) (hm : ∀ b, ok b → ok' b) : (t : T) → ∀ {b o : Nat}, w'.heap[b]? = w.heap[b]? → IsTp ok w t b o → IsTp ok' w' t b o
  | .node x ts, b, o, hb, ht => by
    simp only [IsTp] at ht ⊢
    obtain ⟨h0, h1, a, c, h2, h3, h4, h5⟩ := ht
    refine ⟨h0, (World.cell?_of_block (a := ⟨b, o, none⟩) hb).trans h1, a, c, (World.cell?_of_block (a := ⟨b, o + 1, none⟩) hb).trans h2, h3, h4, ?_⟩
    rcases h5 with h5 | ⟨b', o', h5, h6, h7⟩
    · exact .inl h5
    · exact .inr ⟨b', o', h5, hm _ h6, IsRowp.keep h hm ts (h b' h6) h7⟩
theorem IsRowp.keep {ok ok' : Nat → Prop} {w w' : World} (h : ∀ b, ok b → w'.heap[b]? = w.heap[b]?) (hm : ∀ b, ok b → ok' b) : (ts : List T) → ∀ {b o : Nat}, w'.heap[b]? = w.heap[b]? → IsRowp ok w ts b o → IsRowp ok' w' ts b o
  | [], b, o, hb, ht => by simp [IsRowp]
  | t :: ts, b, o, hb, ht => by
    simp only [IsRowp] at ht ⊢
    exact ⟨IsTp.keep h hm t hb ht.1, IsRowp.keep h hm ts hb ht.2⟩
end
theorem IsArgsp.keep {ok ok' : Nat → Prop} {w w' : World} {ts : List T} {a : Option Addr} {c : Nat} (ht : IsArgsp ok w ts a c) (h : ∀ b, ok b → w'.heap[b]? = w.heap[b]?) (hm : ∀ b, ok b → ok' b) : IsArgsp ok' w' ts a c := by
  obtain ⟨h1, h2, h3⟩ := ht
  refine ⟨h1, h2, ?_⟩
  rcases h3 with h3 | ⟨b, o, h3, h4, h5⟩
  · exact .inl h3
  · exact .inr ⟨b, o, h3, hm _ h4, IsRowp.keep h hm ts (h b h4) h5⟩
theorem IsArgsp.mono {ok ok' : Nat → Prop} {w : World} {ts : List T} {a : Option Addr} {c : Nat} (ht : IsArgsp ok w ts a c) (hm : ∀ b, ok b → ok' b) : IsArgsp ok' w ts a c := ht.keep (fun _ _ => rfl) hm

mutual
theorem isTp_lt {n₀ : Nat} {w : World} : (t : T) → ∀ {b o : Nat}, IsTp (· < n₀) w t b o ↔ IsT n₀ w t b o
  | .node x ts, b, o => by
    simp only [IsTp, IsT]
    constructor
    · rintro ⟨h0, h1, a, c, h2, h3, h4, h5⟩
      exact ⟨h0, h1, a, c, h2, h3, h4, h5.imp id fun ⟨b', o', h6, h7, h8⟩ => ⟨b', o', h6, h7, (isRowp_lt ts).1 h8⟩⟩
    · rintro ⟨h0, h1, a, c, h2, h3, h4, h5⟩
      exact ⟨h0, h1, a, c, h2, h3, h4, h5.imp id fun ⟨b', o', h6, h7, h8⟩ => ⟨b', o', h6, h7, (isRowp_lt ts).2 h8⟩⟩
theorem isRowp_lt {n₀ : Nat} {w : World} : (ts : List T) → ∀ {b o : Nat}, IsRowp (· < n₀) w ts b o ↔ IsRow n₀ w ts b o
  | [], b, o => by simp [IsRowp, IsRow]
  | t :: ts, b, o => by simp only [IsRowp, IsRow]; rw [isTp_lt t, isRowp_lt ts]
end
theorem isArgsp_lt {n₀ : Nat} {w : World} {ts : List T} {a : Option Addr} {c : Nat} : IsArgsp (· < n₀) w ts a c ↔ IsArgs n₀ w ts a c := by
  unfold IsArgsp IsArgs
  constructor
  · rintro ⟨h1, h2, h3⟩
    exact ⟨h1, h2, h3.imp id fun ⟨b', o', h6, h7, h8⟩ => ⟨b', o', h6, h7, (isRowp_lt ts).1 h8⟩⟩
  · rintro ⟨h1, h2, h3⟩
    exact ⟨h1, h2, h3.imp id fun ⟨b', o', h6, h7, h8⟩ => ⟨b', o', h6, h7, (isRowp_lt ts).2 h8⟩⟩
theorem IsArgsp.toArgs {ok : Nat → Prop} {w : World} {ts : List T} {a : Option Addr} {c n : Nat} (h : IsArgsp ok w ts a c) (hm : ∀ b, ok b → b < n) : IsArgs n w ts a c := isArgsp_lt.1 (h.mono hm)

/-- The cells xs are those of the terms ts, one behind the other. -/
def RowVals (ok : Nat → Prop) (w : World) : List T → List Value → Prop
  | [], [] => True
  | t :: ts, h :: s :: xs => (Lit.int .i64 t.head).wf = true ∧ h = .int .i64 t.head ∧ (∃ a c, s = .slice a t.args.length c ∧ IsArgsp ok w t.args a c) ∧ RowVals ok w ts xs
  | _, _ => False

theorem RowVals.keep {ok ok' : Nat → Prop} {w w' : World} (h : ∀ b, ok b → w'.heap[b]? = w.heap[b]?) (hm : ∀ b, ok b → ok' b) : ∀ {ts : List T} {xs : List Value}, RowVals ok w ts xs → RowVals ok' w' ts xs
  | [], [], _ => trivial
  | t :: ts, x :: s :: xs, ⟨h1, h2, ⟨a, c, h3, h4⟩, h5⟩ => ⟨h1, h2, ⟨a, c, h3, h4.keep h hm⟩, RowVals.keep h hm h5⟩
  | [], _ :: _, h => h.elim
  | _ :: _, [], h => h.elim
  | _ :: _, [_], h => h.elim
theorem RowVals.snoc {ok : Nat → Prop} {w : World} {t : T} {a : Option Addr} {c : Nat} (h1 : (Lit.int .i64 t.head).wf = true) (h4 : IsArgsp ok w t.args a c) : ∀ {ts : List T} {xs : List Value}, RowVals ok w ts xs → RowVals ok w (ts ++ [t]) (xs ++ [.int .i64 t.head, .slice a t.args.length c])
  | [], [], _ => ⟨h1, rfl, ⟨a, c, rfl, h4⟩, trivial⟩
  | _ :: _, _ :: _ :: _, ⟨p1, p2, p3, p4⟩ => ⟨p1, p2, p3, RowVals.snoc h1 h4 p4⟩
  | [], _ :: _, h => h.elim
  | _ :: _, [], h => h.elim
  | _ :: _, [_], h => h.elim
theorem RowVals.isRowp {ok : Nat → Prop} {w : World} {g : Nat} : ∀ {ts : List T} {xs : List Value} {q : Nat}, RowVals ok w ts xs → (∀ j u, xs[j]? = some u → w.cell? ⟨g, q + j, none⟩ = some u) → IsRowp ok w ts g q
  | [], [], _, _, _ => trivial
  | t :: ts, x :: s :: xs, q, ⟨h1, h2, ⟨a, c, h3, h4⟩, h5⟩, hc => by
    subst h2 h3
    simp only [IsRowp]
    refine ⟨isTp_iff.2 ⟨h1, by simpa using hc 0 _ rfl, a, c, hc 1 _ rfl, h4⟩, RowVals.isRowp h5 (fun j u hj => ?_)⟩
    rw [show q + 2 + j = q + (j + 2) from by omega]
    exact hc (j + 2) u (by simpa using hj)
  | [], _ :: _, _, h, _ => h.elim
  | _ :: _, [], _, h, _ => h.elim
  | _ :: _, [_], _, h, _ => h.elim
theorem RowVals.length {ok : Nat → Prop} {w : World} : ∀ {ts : List T} {xs : List Value}, RowVals ok w ts xs → xs.length = ts.length * 2
  | [], [], _ => rfl
  | _ :: _, _ :: _ :: _, ⟨_, _, _, p4⟩ => by simp [p4.length]; omega
  | [], _ :: _, h => h.elim
  | _ :: _, [], h => h.elim
  | _ :: _, [_], h => h.elim
theorem rowVals_of {ok : Nat → Prop} {w : World} {b : Nat} : ∀ (ts : List T) (o : Nat), IsRowp ok w ts b o → ∃ xs, RowVals ok w ts xs ∧ (∀ j u, xs[j]? = some u → w.cell? ⟨b, o + j, none⟩ = some u) ∧ (∀ u ∈ xs, u.oneCell' = true) := by
  intro ts
  induction ts with
  | nil => intro o _; exact ⟨[], trivial, by simp, by simp⟩
  | cons t ts ih =>
    intro o h
    simp only [IsRowp] at h
    obtain ⟨xs, h1, h2, h3⟩ := ih (o + 2) h.2
    obtain ⟨wf, p1, a, c, p2, hA⟩ := isTp_iff.1 h.1
    refine ⟨.int .i64 t.head :: .slice a t.args.length c :: xs, ⟨wf, rfl, ⟨a, c, rfl, hA⟩, h1⟩, ?_, ?_⟩
    · intro j u hj
      match j, hj with
      | 0, hj => simp at hj; subst hj; exact p1
      | 1, hj => simp at hj; subst hj; exact p2
      | j + 2, hj => rw [show o + (j + 2) = o + 2 + j from by omega]; exact h2 j u (by simpa using hj)
    · intro u hu
      simp at hu
      rcases hu with rfl | rfl | hu
      · rfl
      · rfl
      · exact h3 u hu

theorem addr_add (b o k : Nat) : (⟨b, o, none⟩ : Addr).add k = ⟨b, o + k, none⟩ := by
  unfold Addr.add; split <;> simp_all

/-- A row of one's own, whose cells are terms, is a slice of terms. -/
theorem argsp_of_owns {ok ok' : Nat → Prop} {w : World} {base : Nat} {e : TypeId} {v : Value} {ts : List T} {xs : List Value} (hown : w.ownsRow base e 2 v ts.length xs) (hr : RowVals ok w ts xs) (hm : ∀ b, ok b → ok' b) (hg : ∀ g, v.ownBlock = some g → ok' g) : ∃ a c, v = .slice a ts.length c ∧ IsArgsp ok' w ts a c := by
  have hcells := fun g hg => hown.cells (g := g) hg
  rcases hown.2 with ⟨rfl, h0⟩ | ⟨g, cap, cur, rfl, hb, hh, hn, hc, hs, _⟩
  · exact ⟨none, 0, by rw [h0], by omega, by simp [maxLen], .inl (List.eq_nil_of_length_eq_zero h0)⟩
  · refine ⟨_, cap, rfl, hn, hc, .inr ⟨g, 0, rfl, hg g rfl, IsRowp.keep (fun _ _ => rfl) hm ts rfl (hr.isRowp (fun j u hj => ?_))⟩⟩
    have := hcells g rfl j u hj
    rw [addr_add] at this
    exact this

end Go.Proofs.YtbdabdjpgmnejaaGreat

/- Positions in terms, and slices of numbers in memory: plain definitions and lemmas; no program is named here. -/
namespace Go.Proofs.YtbdabdjpgmnejaaGreat
set_option linter.unusedVariables false
set_option linter.unusedSimpArgs false
open Go.RowKit

/-- The part at a position. -/
def T.at (t : T) : List Int → Option T
  | [] => some t
  | i :: p => if i < 0 ∨ (t.args.length : Int) ≤ i then none else (t.args[i.toNat]?).bind (fun s => s.at p)
theorem T.at_append (t : T) (p q : List Int) : t.at (p ++ q) = (t.at p).bind (fun s => s.at q) := by
  induction p generalizing t with
  | nil => simp [T.at]
  | cons i p ih =>
    simp only [List.cons_append, T.at]
    split
    · rfl
    · cases t.args[i.toNat]? with
      | none => rfl
      | some s => simp [ih]
theorem T.at_one {s : T} {i : Int} (h0 : 0 ≤ i) (h1 : i < s.args.length) {x : T} (hx : s.args[i.toNat]? = some x) : s.at [i] = some x := by
  simp [T.at, hx]; omega
theorem T.at_one_none {s : T} {i : Int} (h : i < 0 ∨ (s.args.length : Int) ≤ i) : s.at [i] = none := by
  simp [T.at, h]
theorem T.at_take {t s : T} {p : List Int} {k : Nat} {i : Int} (h : t.at (p.take k) = some s) (hi : p[k]? = some i) : t.at (p.take (k + 1)) = s.at [i] := by
  obtain ⟨hk, e⟩ := List.getElem?_eq_some_iff.1 hi
  rw [List.take_succ_eq_append_getElem hk, T.at_append, h, e]; rfl
theorem T.at_none {t s : T} {p : List Int} {k : Nat} {i : Int} (h : t.at (p.take k) = some s) (hi : p[k]? = some i) (hn : s.at [i] = none) : t.at p = none := by
  have h1 := T.at_take h hi
  rw [hn] at h1
  have h2 := T.at_append t (p.take (k + 1)) (p.drop (k + 1))
  rw [List.take_append_drop, h1] at h2
  exact h2
theorem T.at_size {t s : T} {p : List Int} (h : t.at p = some s) : s.size ≤ t.size := by
  induction p generalizing t with
  | nil => simp [T.at] at h; subst h; exact Nat.le_refl _
  | cons i p ih =>
    simp only [T.at] at h
    split at h
    · cases h
    · cases hx : t.args[i.toNat]? with
      | none => rw [hx] at h; cases h
      | some x => rw [hx] at h; have h1 := ih h; have h2 := T.size_lt_of_mem hx; have h3 := T.size_eq t; omega

/-- With another part put there. -/
def T.put (t : T) (u : T) : List Int → T
  | [] => u
  | i :: p => .node t.head (t.args.modify i.toNat (fun s => s.put u p))

/-- All positions, as they are listed. -/
def behind (i : Nat) (l : List (List Int)) : List (List Int) := l.map (fun p => (i : Int) :: p)
mutual
def T.all : T → List (List Int)
  | .node _ ts => [] :: T.alls 0 ts
def T.alls (i : Nat) : List T → List (List Int)
  | [] => []
  | t :: ts => behind i t.all ++ T.alls (i + 1) ts
end

/-- A slice of numbers in memory. -/
def IsIs (n₀ : Nat) (w : World) (zs : List Int) (a : Option Addr) (c : Nat) : Prop :=
  zs.length ≤ c ∧ c ≤ maxLen ∧ (zs = [] ∨ ∃ b o, a = some ⟨b, o, none⟩ ∧ b < n₀ ∧ ∀ (j : Nat) (z : Int), zs[j]? = some z → w.cell? ⟨b, o + j, none⟩ = some (.int .i64 z))
theorem IsIs.keep {n₀ n₁ : Nat} {w w' : World} {zs : List Int} {a : Option Addr} {c : Nat} (h : IsIs n₀ w zs a c) (hb : ∀ b, b < n₀ → w'.heap[b]? = w.heap[b]?) (hn : n₀ ≤ n₁) : IsIs n₁ w' zs a c := by
  obtain ⟨h1, h2, h3⟩ := h
  refine ⟨h1, h2, ?_⟩
  rcases h3 with h3 | ⟨b, o, h4, h5, h6⟩
  · exact .inl h3
  · exact .inr ⟨b, o, h4, by omega, fun j z hz => (World.cell?_of_block (a := ⟨b, o + j, none⟩) (hb b h5)).trans (h6 j z hz)⟩
theorem IsIs.below {n₀ : Nat} {w w' : World} {zs : List Int} {a : Option Addr} {c : Nat} (h : IsIs n₀ w zs a c) (hb : Below n₀ w w') : IsIs n₀ w' zs a c := h.keep (fun b h => hb.block b h) (Nat.le_refl _)
theorem IsIs.mono {n₀ n₁ : Nat} {w : World} {zs : List Int} {a : Option Addr} {c : Nat} (h : IsIs n₀ w zs a c) (hn : n₀ ≤ n₁) : IsIs n₁ w zs a c := h.keep (fun _ _ => rfl) hn
theorem IsIs.elem {n₀ : Nat} {w : World} {zs : List Int} {a : Option Addr} {c : Nat} (h : IsIs n₀ w zs a c) {k : Nat} (hk : k < zs.length) : ∃ (b o : Nat) (z : Int), a = some ⟨b, o, none⟩ ∧ b < n₀ ∧ zs[k]? = some z ∧ w.cell? ⟨b, o + k, none⟩ = some (.int .i64 z) := by
  rcases h.2.2 with rfl | ⟨b, o, h4, h5, h6⟩
  · simp at hk
  · exact ⟨b, o, zs[k], h4, h5, List.getElem?_eq_getElem hk, h6 k _ (List.getElem?_eq_getElem hk)⟩

end Go.Proofs.YtbdabdjpgmnejaaGreat

/- Contracts of Count and Few. -/
namespace Go.Proofs.YtbdabdjpgmnejaaGreat
set_option linter.unusedVariables false
set_option linter.unusedSimpArgs false
open Go.RowKit

/-- Count(t, most): the size, as far as one above most. -/
theorem count_any : ∀ (N : Nat) (t : T), t.size ≤ N → ∀ (most : Nat) (n₀ : Nat) (a : Option Addr) (c : Nat) (w : World), most ≤ 500 → n₀ ≤ w.heap.size → IsArgs n₀ w t.args a c →
    Calls Tryz.prog 77 #[tm t.head a t.args.length c, .int .i64 most] w fun e w' => e = .returned (.int .i64 (min t.size (most + 1) : Nat)) ∧ Below w.heap.size w w' := by
  intro N
  induction N with
  | zero => intro t ht; have := T.size_pos t; omega
  | succ N ih =>
    intro t ht most n₀ a c w hm hn hA
    have IH := Lib.hid ih
    clear ih
    have hsz := T.size_eq t
    have HS := Lib.hid hsz
    clear hsz
    have hlc : t.args.length ≤ c ∧ c ≤ maxLen := ⟨hA.1, hA.2.1⟩
    unfold maxLen at hlc
    obtain ⟨hl1, hl2⟩ := hlc
    generalize hL : t.args.length = len at *
    have HL := Lib.hid hL
    clear hL
    have HA := Lib.hid hA
    clear hA
    go_enter Tryz.func77, Tryz.ntmps77
    go_wp2
    go_loopw [5, 6] (fun n i wr => ∃ k : Nat, k ≤ len ∧ i = .int .i64 k ∧ n = .int .i64 (min (1 + T.sizes (t.args.take k)) (most + 1) : Nat) ∧ Below (w.heap.size + 1) (w.alloc (tmCells t.head a len c)) wr)
      (fun _ i _ => len - (intOf i).toNat)
    case atStart => exact ⟨0, Nat.zero_le _, rfl, by simp [T.sizes], Below.refl _ _⟩
    case round =>
      obtain ⟨k, hk, rfl, rfl, hB⟩ := hrel
      generalize hm' : min (1 + T.sizes (t.args.take k)) (most + 1) = m at *
      have hmb : m ≤ 501 := by omega
      have HM := Lib.hid hm'
      clear hm'
      have hbox : wr.cell? ⟨w.heap.size, 1, none⟩ = some (.slice a len c) := (hB.cell (p := ⟨w.heap.size, 1, none⟩) (by simp)).trans (by simp [go_sem])
      have HB := Lib.hid hB
      clear hB
      by_cases hlt : k < len
      · by_cases hle : m ≤ most
        · have hw : Below n₀ w wr := ((Below.refl n₀ w).alloc hn _).trans (HB.out.mono (by omega))
          obtain ⟨b, o, s, a', c', rfl, hbn, hs, hwf, hc1, hc2, hA'⟩ := (HA.out.below hw).elem (i := k) (by rw [HL.out]; exact hlt)
          have hs1 : wr.heap.size ≥ w.heap.size + 1 := by have := HB.out.size; simpa using this
          have hsN : s.size ≤ N := by have := T.size_lt_of_mem hs; have := HS.out; omega
          have HSS := Lib.hid hs
          have HA' := Lib.hid hA'
          clear hs hA' hw hwf
          go_wp2_with fail
          rw [show ((most : Int) - (m : Int)) = ((most - m : Nat) : Int) from by omega]
          refine (IH.out s hsN (most - m) n₀ a' c' wr (by omega) (by omega) HA'.out).mono ?_
          rintro e w2 ⟨rfl, hB2⟩
          generalize hr : min s.size (most - m + 1) = r
          have hrb : r ≤ 501 := by omega
          have HR := Lib.hid hr
          have HB2 := Lib.hid hB2
          clear hr hB2
          go_wp2
          go_roundw
          case rel =>
            refine ⟨k + 1, by omega, by go_num, ?_, HB.out.trans (HB2.out.mono (by omega))⟩
            have h1 := HM.out
            have h2 := HR.out
            have h3 := T.sizes_take HSS.out
            rw [show ((m : Int) + (r : Int)) = ((m + r : Nat) : Int) from by omega]
            exact congrArg (fun x : Nat => Value.int .i64 (x : Int)) (by omega)
          case measure => simp [intOf]; omega
        · go_wp2
          go_ret
          refine ⟨?_, (((Below.refl w.heap.size w).alloc (Nat.le_refl _) _).trans (HB.out.mono (by omega)))⟩
          have h1 := HM.out
          have h2 := HS.out
          have h3 := T.sizes_append (t.args.take k) (t.args.drop k)
          rw [List.take_append_drop] at h3
          exact congrArg (fun x : Nat => Ending.returned (.int .i64 (x : Int))) (by omega)
      · go_wp2
        go_ret
        refine ⟨?_, (((Below.refl w.heap.size w).alloc (Nat.le_refl _) _).trans (HB.out.mono (by omega)))⟩
        have h1 := HM.out
        have h2 := HS.out
        rw [List.take_of_length_le (by have := HL.out; omega)] at h1
        exact congrArg (fun x : Nat => Ending.returned (.int .i64 (x : Int))) (by omega)

end Go.Proofs.YtbdabdjpgmnejaaGreat

/- Lt0: of Lat, what names no reference. -/
/- Memory of variables; rows of numbers and append. -/
namespace Go.Proofs.YtbdabdjpgmnejaaGreat
set_option linter.unusedVariables false
set_option linter.unusedSimpArgs false
open Go.RowKit

theorem T.args_node (h : Int) (ts : List T) : (T.node h ts).args = ts := rfl
theorem var_alloc {w0 w' W : World} (h : Below w0.heap.size w0 w') (hd : Int) (a : Option Addr) (n c : Nat) (hW : Below (w'.alloc (tmCells hd a n c)).heap.size (w'.alloc (tmCells hd a n c)) W) :
    W.cell? ⟨w'.heap.size, 0, none⟩ = some (.int .i64 hd) ∧ W.cell? ⟨w'.heap.size, 1, none⟩ = some (.slice a n c) ∧ Below w0.heap.size w0 W ∧ Below w'.heap.size w' W := by
  refine ⟨(hW.cell (p := ⟨w'.heap.size, 0, none⟩) (by simp)).trans (by simp [go_sem]), (hW.cell (p := ⟨w'.heap.size, 1, none⟩) (by simp)).trans (by simp [go_sem]), ?_, ?_⟩
  · exact (h.alloc h.size _).trans (hW.mono (by have := h.size; simp; omega))
  · exact ((Below.refl _ _).alloc (Nat.le_refl _) _).trans (hW.mono (by simp))

/-- A variable that holds a term, in later worlds. -/
theorem var_term {w0 w' : World} (h : Below w0.heap.size w0 w') (x : T) (a : Option Addr) (c : Nat) (hA : IsArgs w'.heap.size w' x.args a c) (W : World) (hW : Below (w'.alloc (tmCells x.head a x.args.length c)).heap.size (w'.alloc (tmCells x.head a x.args.length c)) W) :
    W.cell? ⟨w'.heap.size, 0, none⟩ = some (.int .i64 x.head) ∧ W.cell? ⟨w'.heap.size, 1, none⟩ = some (.slice a x.args.length c) ∧ Below w0.heap.size w0 W ∧ IsArgs W.heap.size W x.args a c := by
  obtain ⟨h1, h2, h3, h4⟩ := var_alloc h x.head a x.args.length c hW
  exact ⟨h1, h2, h3, (hA.below h4).mono h4.size⟩

def Z0 : T := .node 0 []

theorem isIs_of_owns {base : Nat} {W : World} {v : Value} {p : List Int} (h : W.ownsRow base 3 1 v p.length (p.map (Value.int .i64))) : ∃ a c, v = .slice a p.length c ∧ IsIs W.heap.size W p a c := by
  have hcells := fun g hg => h.cells (g := g) hg
  rcases h.2 with ⟨rfl, h0⟩ | ⟨g, cap, cur, rfl, hg, hh, hn, hc, _⟩
  · exact ⟨none, 0, by rw [h0], by omega, by simp [maxLen], .inl (List.eq_nil_of_length_eq_zero h0)⟩
  · refine ⟨_, cap, rfl, hn, hc, .inr ⟨g, 0, rfl, (Array.getElem?_eq_some_iff.1 hh).1, fun j z hz => ?_⟩⟩
    have := hcells g rfl j (.int .i64 z) (by simp [hz])
    rw [addr_add] at this
    simpa using this

/-- append(v, zs...), where v is a row of one's own. -/
theorem wpList_append_is {w : World} {ops : Array Oper} {rest : List Oper} {o : Oper} {a : Act} {Q : Exit → Act → World → Prop} (hgd : o.guard = none) (s x : Operand)
    (ho : o.op = .call { callee := .builtin .append, args := #[s, x], argTypes := #[40, 40] }) (base : Nat) (v : Value) (n : Nat) (xs : List Value) (hs : a.eval s = v) (hown : w.ownsRow base 3 1 v n xs)
    (zs : List Int) (a' : Option Addr) (c' : Nat) (n₀ : Nat) (hx : a.eval x = .slice a' zs.length c') (hI : IsIs n₀ w zs a' c') (hnil : a' = none → c' = 0) (hl : n + zs.length ≤ 1000000000000) (hbase : base ≤ w.heap.size)
    (h : ∀ v' w', w'.ownsRow base 3 1 v' (n + zs.length) (xs ++ zs.map (Value.int .i64)) → w.grownBy w' v.ownBlock → wpList Tryz.prog ops Q rest (a.put o.dst v') w') : wpList Tryz.prog ops Q (o :: rest) a w := by
  obtain ⟨i0, hi, hz0, hz1, hz2⟩ := info_parts info3
  cases a' with
  | none =>
    obtain rfl := hnil rfl
    have h0 : zs = [] := by rcases hI.2.2 with h | ⟨_, _, h, _⟩; exact h; cases h
    subst h0
    refine wpList_append_own_none hgd s x 40 ho base 3 i0 1 Tryz.underlying40 hi v n xs hs hown hx ?_
    exact h v w (by simpa using hown) ⟨rfl, rfl, rfl, Nat.le_refl _, fun _ _ _ => rfl⟩
  | some ad =>
    refine wpList_append_own w hgd s x 40 ho base 3 i0 (.int .i64 0) 1 8 Tryz.underlying40 hi hz0 hz1 hz2 rfl (by decide) v n xs hs hown ad zs.length c' (zs.map (Value.int .i64)) hx (by simp) (fun j u hj => ?_) (by intro u hu; obtain ⟨z, _, rfl⟩ := List.mem_map.1 hu; rfl) (by unfold maxLen; omega) (by omega) hbase (fun v' w' h1 h2 _ => h v' w' h1 h2)
    rw [List.getElem?_map, Option.map_eq_some_iff] at hj
    obtain ⟨z, hz, rfl⟩ := hj
    rcases hI.2.2 with rfl | ⟨b, o', e, _, h6⟩
    · simp at hz
    · cases e
      rw [addr_add]
      exact h6 j z hz


end Go.Proofs.YtbdabdjpgmnejaaGreat

/- Facts on memory that last: what holds in every later world. -/
namespace Go.Proofs.YtbdabdjpgmnejaaGreat
set_option linter.unusedVariables false
set_option linter.unusedSimpArgs false
open Go.RowKit

/-- F holds in W and in every later world. -/
def Later (F : World → Prop) (W : World) : Prop := ∀ W', Below W.heap.size W W' → F W'
theorem Later.now {F : World → Prop} {W : World} (h : Later F W) : F W := h W (Below.refl _ _)
theorem Later.mv {F : World → Prop} {W W' : World} (h : Later F W) (hb : Below W.heap.size W W') : Later F W' := fun X hX => h X (hb.trans (hX.mono hb.size))
theorem Later.and {F G : World → Prop} {W : World} (h : Later F W) (k : Later G W) : Later (fun X => G X ∧ F X) W := fun X hX => ⟨k X hX, h X hX⟩
theorem Later.below {w W : World} (h : Below w.heap.size w W) : Later (fun X => Below w.heap.size w X) W := fun X hX => h.trans (hX.mono h.size)
theorem later_args {W : World} {ts : List T} {a : Option Addr} {c : Nat} (h : IsArgs W.heap.size W ts a c) : Later (fun X => IsArgs X.heap.size X ts a c) W := fun X hX => (h.below hX).mono hX.size
theorem later_is {W : World} {zs : List Int} {a : Option Addr} {c : Nat} (h : IsIs W.heap.size W zs a c) : Later (fun X => IsIs X.heap.size X zs a c) W := fun X hX => (h.below hX).mono hX.size

/-- A variable of type Term: its two cells. -/
def Vc (b : Nat) (h : Int) (a : Option Addr) (n c : Nat) (X : World) : Prop := X.cell? ⟨b, 0, none⟩ = some (.int .i64 h) ∧ X.cell? ⟨b, 1, none⟩ = some (.slice a n c)
theorem later_var (W : World) (h : Int) (a : Option Addr) (n c : Nat) : Later (Vc W.heap.size h a n c) (W.alloc (tmCells h a n c)) := fun X hX =>
  ⟨(hX.cell (p := ⟨W.heap.size, 0, none⟩) (by simp)).trans (by simp [go_sem]), (hX.cell (p := ⟨W.heap.size, 1, none⟩) (by simp)).trans (by simp [go_sem])⟩
/-- A new variable of type Term, laid in a later world. -/
theorem Later.push {F : World → Prop} {W W' : World} (k : Later F W) (hb : Below W.heap.size W W') (h : Int) (a : Option Addr) (n c : Nat) : Later (fun X => Vc W'.heap.size h a n c X ∧ F X) (W'.alloc (tmCells h a n c)) :=
  (k.mv (hb.alloc hb.size _)).and (later_var W' h a n c)
/-- A new variable that holds a term whose arguments lie in memory. -/
theorem Later.pushT {F : World → Prop} {W W' : World} (k : Later F W) (hb : Below W.heap.size W W') (x : T) (a : Option Addr) (c : Nat) (hA : IsArgs W'.heap.size W' x.args a c) : Later (fun X => Vc W'.heap.size x.head a x.args.length c X ∧ IsArgs X.heap.size X x.args a c ∧ F X) (W'.alloc (tmCells x.head a x.args.length c)) :=
  ((k.mv (hb.alloc hb.size _)).and ((later_args hA).mv ((Below.refl _ _).alloc (Nat.le_refl _) _))).and (later_var W' _ a _ c)
theorem heap_alloc_size (W : World) (o : Obj) : (W.alloc o).heap.size = W.heap.size + 1 := by simp

end Go.Proofs.YtbdabdjpgmnejaaGreat

/- Signatures in memory: plain definitions. -/
namespace Go.Proofs.YtbdabdjpgmnejaaGreat
set_option linter.unusedVariables false
set_option linter.unusedSimpArgs false
open Go.RowKit

structure Sy where
  name : ByteArray
  ar : Int
  wt : Int
  tr : Bool
  deriving DecidableEq
abbrev Sg := List Sy

def Sy.cells (x : Sy) : List Value := [.string x.name, .int .i64 x.ar, .int .i64 x.wt, .bool x.tr]
abbrev sy (x : Sy) : Value := .agg #[.string x.name, .int .i64 x.ar, .int .i64 x.wt, .bool x.tr]
def Sy.wf (x : Sy) : Prop := x.name.size ≤ maxLen ∧ (Lit.int .i64 x.ar).wf = true ∧ (Lit.int .i64 x.wt).wf = true
def IsSy (W : World) (x : Sy) (b o : Nat) : Prop :=
  x.wf ∧ W.cell? ⟨b, o, none⟩ = some (.string x.name) ∧ W.cell? ⟨b, o + 1, none⟩ = some (.int .i64 x.ar) ∧ W.cell? ⟨b, o + 2, none⟩ = some (.int .i64 x.wt) ∧ W.cell? ⟨b, o + 3, none⟩ = some (.bool x.tr)
def IsSg (n₀ : Nat) (W : World) (g : Sg) (a : Option Addr) (c : Nat) : Prop :=
  g.length ≤ c ∧ c ≤ maxLen ∧ (g = [] ∨ ∃ b o, a = some ⟨b, o, none⟩ ∧ b < n₀ ∧ ∀ (j : Nat) (x : Sy), g[j]? = some x → IsSy W x b (o + j * 4))
theorem IsSg.below {n₀ : Nat} {w w' : World} {g : Sg} {a : Option Addr} {c : Nat} (h : IsSg n₀ w g a c) (hb : Below n₀ w w') : IsSg n₀ w' g a c := by
  obtain ⟨h1, h2, h3⟩ := h
  refine ⟨h1, h2, ?_⟩
  rcases h3 with h3 | ⟨b, o, h4, h5, h6⟩
  · exact .inl h3
  · refine .inr ⟨b, o, h4, h5, fun j x hx => ?_⟩
    obtain ⟨p0, p1, p2, p3, p4⟩ := h6 j x hx
    exact ⟨p0, (hb.cell (p := ⟨b, _, none⟩) h5).trans p1, (hb.cell (p := ⟨b, _, none⟩) h5).trans p2, (hb.cell (p := ⟨b, _, none⟩) h5).trans p3, (hb.cell (p := ⟨b, _, none⟩) h5).trans p4⟩
theorem IsSg.mono {n₀ n₁ : Nat} {w : World} {g : Sg} {a : Option Addr} {c : Nat} (h : IsSg n₀ w g a c) (hn : n₀ ≤ n₁) : IsSg n₁ w g a c := by
  obtain ⟨h1, h2, h3⟩ := h
  refine ⟨h1, h2, ?_⟩
  rcases h3 with h3 | ⟨b, o, h4, h5, h6⟩
  · exact .inl h3
  · exact .inr ⟨b, o, h4, by omega, h6⟩
theorem later_sg {W : World} {g : Sg} {a : Option Addr} {c : Nat} (h : IsSg W.heap.size W g a c) : Later (fun X => IsSg X.heap.size X g a c) W := fun X hX => (h.below hX).mono hX.size
theorem IsSg.elem {n₀ : Nat} {w : World} {g : Sg} {a : Option Addr} {c : Nat} (h : IsSg n₀ w g a c) {i : Nat} (hi : i < g.length) :
    ∃ (b o : Nat) (x : Sy), a = some ⟨b, o, none⟩ ∧ b < n₀ ∧ g[i]? = some x ∧ x.wf ∧ w.cell? ⟨b, o + i * 4, none⟩ = some (.string x.name) ∧ w.cell? ⟨b, o + i * 4 + 1, none⟩ = some (.int .i64 x.ar) ∧
      w.cell? ⟨b, o + i * 4 + 2, none⟩ = some (.int .i64 x.wt) ∧ w.cell? ⟨b, o + i * 4 + 3, none⟩ = some (.bool x.tr) := by
  obtain ⟨_, _, h3⟩ := h
  rcases h3 with rfl | ⟨b, o, rfl, h4, h5⟩
  · simp at hi
  · obtain ⟨p0, p1, p2, p3, p4⟩ := h5 i _ (List.getElem?_eq_getElem hi)
    exact ⟨b, o, g[i], rfl, h4, List.getElem?_eq_getElem hi, p0, p1, p2, p3, p4⟩

/-! ### What the document says of signatures -/
/-- May the symbol not be in a signature? -/
def badSy (x : Sy) : Bool := decide (x.name.size < 1) || decide (64 < x.name.size) || decide (x.ar < 0) || decide (8 < x.ar) || decide (x.wt < 1) || decide (1000 < x.wt)
/-- The number of the first symbol of that name; -1: none. -/
def idxSy (name : ByteArray) : Sg → Option Nat
  | [] => none
  | x :: g => if x.name = name then some 0 else (idxSy name g).map (· + 1)
theorem idxSy_get {name : ByteArray} : ∀ {g : Sg} {i : Nat}, idxSy name g = some i → ∃ x, g[i]? = some x ∧ x.name = name ∧ ∀ (j : Nat) (y : Sy), j < i → g[j]? = some y → y.name ≠ name
  | [], i, h => by simp [idxSy] at h
  | x :: g, i, h => by
    simp only [idxSy] at h
    split at h
    · rename_i hx
      obtain rfl := Option.some.inj h
      exact ⟨x, rfl, hx, fun j y hj => by omega⟩
    · rename_i hx
      rw [Option.map_eq_some_iff] at h
      obtain ⟨k, hk, rfl⟩ := h
      obtain ⟨y, h1, h2, h3⟩ := idxSy_get hk
      refine ⟨y, by simpa using h1, h2, fun j z hj hz => ?_⟩
      cases j with
      | zero => simp at hz; subst hz; exact hx
      | succ j => exact h3 j z (by omega) (by simpa using hz)
theorem idxSy_none {name : ByteArray} : ∀ {g : Sg}, idxSy name g = none → ∀ x ∈ g, x.name ≠ name
  | [], h => by simp
  | x :: g, h => by
    simp only [idxSy] at h
    split at h
    · cases h
    · rename_i hx
      have := idxSy_none (Option.map_eq_none_iff.1 h)
      intro y hy
      rcases List.mem_cons.1 hy with rfl | hy
      · exact hx
      · exact this y hy
/-- Found at k, where none before has the name. -/
theorem idxSy_hit {name : ByteArray} : ∀ {g : Sg} {k : Nat} {x : Sy}, (∀ (j : Nat) (y : Sy), j < k → g[j]? = some y → y.name ≠ name) → g[k]? = some x → x.name = name → idxSy name g = some k
  | [], k, x, _, h, _ => by simp at h
  | y :: g, 0, x, _, h, hx => by simp at h; subst h; simp [idxSy, hx]
  | y :: g, k + 1, x, hno, h, hx => by
    have h0 := hno 0 y (by omega) rfl
    have := idxSy_hit (g := g) (k := k) (fun j z hj hz => hno (j + 1) z (by omega) (by simpa using hz)) (by simpa using h) hx
    simp [idxSy, h0, this]
theorem idxSy_miss {name : ByteArray} : ∀ {g : Sg}, (∀ (j : Nat) (y : Sy), g[j]? = some y → y.name ≠ name) → idxSy name g = none
  | [], _ => rfl
  | y :: g, h => by
    have h0 := h 0 y rfl
    have := idxSy_miss (g := g) (fun j z hz => h (j + 1) z (by simpa using hz))
    simp [idxSy, h0, this]
/-- Is each symbol the first of its name? -/
def difSg (g : Sg) : Bool := (List.range g.length).all fun i => match g[i]? with
  | some x => decide (idxSy x.name g = some i)
  | none => true
def sy0 : Sy := { name := ⟨#[36, 116, 114, 117, 101]⟩, ar := 0, wt := 1, tr := true }
def rightG (g : Sg) : Bool := decide (1 ≤ g.length) && decide (g.length ≤ 256) && decide (g[0]? = some sy0) && !(g.any badSy) && difSg g
def errG (g : Sg) : Int := if rightG g then 0 else 1

/-- Do all symbols of a term stand in the signature, with as many arguments? -/
def armOk (g : Sg) (h : Int) (n : Nat) : Bool := decide (h < 0) || match g[h.toNat]? with
  | some x => decide ((n : Int) = x.ar)
  | none => false
mutual
def fitsT (g : Sg) : T → Bool
  | .node h ts => decide (h < 0) || (armOk g h ts.length && fitsL g ts)
def fitsL (g : Sg) : List T → Bool
  | [] => true
  | t :: ts => fitsT g t && fitsL g ts
end
theorem fitsT_eq (g : Sg) (t : T) : fitsT g t = (decide (t.head < 0) || (armOk g t.head t.args.length && fitsL g t.args)) := by cases t; rfl
theorem fitsL_all (g : Sg) (ts : List T) : fitsL g ts = ts.all (fitsT g) := by
  induction ts with
  | nil => rfl
  | cons t ts ih => simp [fitsL, ih]
/-- Is the symbol a predicate? -/
def predS (g : Sg) (h : Int) : Bool := decide (0 ≤ h) && match g[h.toNat]? with
  | some x => x.tr
  | none => false
mutual
def predT (g : Sg) : T → Bool
  | .node h ts => predS g h || predL g ts
def predL (g : Sg) : List T → Bool
  | [] => false
  | t :: ts => predT g t || predL g ts
end
theorem predT_eq (g : Sg) (t : T) : predT g t = (predS g t.head || predL g t.args) := by cases t; rfl
theorem predL_any (g : Sg) (ts : List T) : predL g ts = ts.any (predT g) := by
  induction ts with
  | nil => rfl
  | cons t ts ih => simp [predL, ih]
def errT (g : Sg) (t : T) : Int := if rightG g then if t.check = 0 then if fitsT g t then if predL g t.args then 10 else 0 else 1 else t.check else 1
/-- The weight of a head. -/
def wo (g : Sg) (h : Int) : Int := if h < 0 then 1 else match g[h.toNat]? with
  | some x => x.wt
  | none => 0
mutual
def wtT (g : Sg) : T → Int
  | .node h ts => wo g h + wtL g ts
def wtL (g : Sg) : List T → Int
  | [] => 0
  | t :: ts => wtT g t + wtL g ts
end
theorem wtT_eq (g : Sg) (t : T) : wtT g t = wo g t.head + wtL g t.args := by cases t; rfl

end Go.Proofs.YtbdabdjpgmnejaaGreat
