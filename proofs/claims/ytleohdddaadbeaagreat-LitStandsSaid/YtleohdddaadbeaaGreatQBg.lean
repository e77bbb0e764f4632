/- QBg: joined of Hd0, Wg0, Wpl. -/
import Derived.Test.YtleohdddaadbeaaGreatQBc
import Derived.Test.YtleohdddaadbeaaGreatQBd
import Derived.Test.YtleohdddaadbeaaGreatQBf
import Derived.Maps.OwnSet
import Derived.Maps.RangeWalk
import Derived.Lib.QuietBelow
import Derived.Deep.QuietTactic
import Derived.BigQuiet
/- Heads of a term, maps of counts, and the stack: what names no function (split off Hd). -/
namespace Go.Proofs.YtleohdddaadbeaaGreat
set_option linter.unusedVariables false
set_option linter.unusedSimpArgs false
open Go.RowKit Go.Maps

mutual
def T.hds : T → List Int
  | .node h ts => h :: T.hdsL ts
def T.hdsL : List T → List Int
  | [] => []
  | t :: ts => t.hds ++ T.hdsL ts
end
theorem T.hds_eq (t : T) : t.hds = t.head :: T.hdsL t.args := by cases t; rfl
mutual
theorem T.hds_length : (t : T) → t.hds.length = t.size
  | .node h ts => by simp [T.hds, T.size, T.hdsL_length ts]; omega
theorem T.hdsL_length : (ts : List T) → (T.hdsL ts).length = T.sizes ts
  | [] => rfl
  | t :: ts => by simp [T.hdsL, T.sizes, T.hds_length t, T.hdsL_length ts]
end
theorem T.hdsL_drop {ts : List T} {i : Nat} {t : T} (h : ts[i]? = some t) : T.hdsL (ts.drop i) = t.hds ++ T.hdsL (ts.drop (i + 1)) := by
  obtain ⟨hi, e⟩ := List.getElem?_eq_some_iff.1 h
  rw [List.drop_eq_getElem_cons hi, e, T.hdsL]

theorem keyHd : Keyed Tryz.prog 3 := int_keyed Tryz.underlying3
theorem zeroHd (w : World) : (zeroValue 3).run Tryz.prog w = .ok (.int .i64 0) w := by kernel_rfl
def hwf (v : Int) : Prop := -9223372036854775808 ≤ v ∧ v ≤ 9223372036854775807
theorem hwf.wf {v : Int} (h : hwf v) : (Lit.int .i64 v).wf = true := WalkArith.wf_i64 h
theorem hwf_of {v : Int} (h : (Lit.int .i64 v).wf = true) : hwf v := by
  revert h
  intro hw
  show -9223372036854775808 ≤ v ∧ v ≤ 9223372036854775807
  simp [Lit.wf, IntKind.min, IntKind.max, IntKind.signed, IntKind.bits] at hw
  omega

/-- Block M is a map that tells of each number how often it stands in L. -/
def CntM (W : World) (M : Nat) (L : List Int) : Prop :=
  ∃ D : DataW Unit, W.ownsMap Tryz.prog 3 (plainElem Tryz.prog 3) M L.length D ∧ (∀ v, hwf v → Maps.has D (.int .i64 v) = decide (v ∈ L) ∧ (v ∈ L → ∀ z, D.atKey (.int .i64 v) z = .lit (.int .i64 (L.count v : Nat)))) ∧ ∀ v ∈ L, hwf v

theorem CntM.lt {W : World} {M : Nat} {L : List Int} (h : CntM W M L) : M < W.heap.size := by obtain ⟨D, h1, _⟩ := h; exact h1.lt
theorem CntM.kept {W W' : World} {M : Nat} {L : List Int} (h : CntM W M L) (hb : W'.heap[M]? = W.heap[M]?) : CntM W' M L := by
  obtain ⟨D, ⟨es, clock, hm, r⟩, h2⟩ := h
  exact ⟨D, ⟨es, clock, hb.trans hm, r⟩, h2⟩
theorem CntM.notCells {W : World} {M : Nat} {L : List Int} (h : CntM W M L) {cs : Array Value} {e : TypeId} {fz : Nat × Nat} : W.heap[M]? ≠ some (.cells cs e fz) := by
  obtain ⟨D, ⟨es, clock, hm, r⟩, h2⟩ := h
  rw [hm]; simp
theorem CntM.perm {W : World} {M : Nat} {L L' : List Int} (h : CntM W M L) (hp : L.Perm L') : CntM W M L' := by
  obtain ⟨D, h1, h2, h4⟩ := h
  refine ⟨D, by rw [← hp.length_eq]; exact h1, fun v hv => ?_, fun v hv => h4 v (hp.mem_iff.2 hv)⟩
  obtain ⟨q1, q2⟩ := h2 v hv
  refine ⟨by rw [q1]; simp [hp.mem_iff], fun hm z => ?_⟩
  rw [q2 (hp.mem_iff.2 hm) z, hp.count_eq]
theorem CntM.look {W : World} {M : Nat} {L : List Int} (h : CntM W M L) {v : Int} (hv : hwf v) :
    (Instr.lookup 76 (.map (some M)) (.int .i64 v) false).run Tryz.prog W = .ok (.int .i64 (L.count v : Nat)) W := by
  obtain ⟨D, h1, h3, h4⟩ := h
  have hkey := keyOf_int_mk (P := Tryz.prog) (k := 3) Tryz.underlying3 hv.wf
  obtain ⟨q1, q2⟩ := h3 v hv
  obtain ⟨c, hrun, hat, _⟩ := h1.lookup_int keyHd Tryz.underlying76 Tryz.underlying3 (zeroHd _) hkey
  rw [hrun]
  by_cases hm : v ∈ L
  · rw [q2 hm] at hat
    simp at hat
    rw [hat]
  · rw [Maps.atKey_of_not_has (by rw [q1]; simp [hm])] at hat
    simp at hat
    rw [← hat, List.count_eq_zero.2 hm]; rfl
theorem CntM.put {W : World} {M : Nat} {L : List Int} (h : CntM W M L) {v : Int} (hv : hwf v) (hn : L.length ≤ 1000000000000) :
    ∃ w', (Instr.mapUpdate 76 (.map (some M)) (.int .i64 v) (.int .i64 ((L.count v : Nat) + 1))).run Tryz.prog W = .ok () w' ∧ CntM w' M (v :: L) ∧ W.grownBy w' (some M) := by
  obtain ⟨D, h1, h3, h4⟩ := h
  have hkey := keyOf_int_mk (P := Tryz.prog) (k := 3) Tryz.underlying3 hv.wf
  have hcl : L.count v ≤ L.length := List.count_le_length
  have hwc : (Lit.int .i64 ((L.count v : Nat) + 1)).wf = true := WalkArith.wf_i64 ⟨by omega, by omega⟩
  obtain ⟨w', hrun, r1, r2⟩ := h1.update keyHd Tryz.underlying76 (by unfold maxLen; omega) hkey (plainElem_int (H := Unit) (P := Tryz.prog) Tryz.underlying3 hwc)
  have hM := h1.isMap
  refine ⟨w', hrun, ⟨_, r1, fun x hx => ?_, fun x hx => by rcases List.mem_cons.1 hx with rfl | hx; exact hv; exact h4 x hx⟩, r2⟩
  by_cases e : x = v
  · subst e
    refine ⟨by rw [Maps.has_put_same hM (show WideAt.IsKeyLit (.int .i64 x) from trivial)]; simp, fun _ z => ?_⟩
    rw [Maps.atKey_put_same (k := .int .i64 x) hM (show WideAt.IsKeyLit (.int .i64 x) from trivial) _ z]
    simp
  · have hne : Lit.int .i64 x ≠ Lit.int .i64 v := by intro e'; injection e' with _ e'; exact e e'
    refine ⟨by rw [Maps.has_put_other hne, (h3 x hx).1]; simp [e], fun hm z => ?_⟩
    rw [Maps.atKey_put_other hne, (h3 x hx).2 (by simpa [e] using hm) z, List.count_cons_of_ne (fun e' => e e'.symm)]
theorem CntM.made (w : World) : CntM (w.alloc (.map #[] 0)) w.heap.size [] :=
  ⟨.map [], World.ownsMap_made w Tryz.prog 3 (plainElem Tryz.prog 3), fun v _ => ⟨rfl, by simp⟩, by simp⟩

/-! ### The stack -/
abbrev Stk := List (List T × Option Addr × Nat)
def hvals (S : Stk) : List Value := S.map fun e => .slice e.2.1 e.1.length e.2.2
def hsum (S : Stk) : Nat := (S.map fun e => T.sizes e.1).sum
def hall (S : Stk) : List Int := (S.map fun e => T.hdsL e.1).flatten
theorem hall_length (S : Stk) : (hall S).length = hsum S := by
  induction S with
  | nil => rfl
  | cons e S ih => simp only [hall, hsum, List.map_cons, List.flatten_cons, List.sum_cons, List.length_append, T.hdsL_length] at ih ⊢; omega
theorem hsum_snoc (S : Stk) (e) : hsum (S ++ [e]) = hsum S + T.sizes e.1 := by simp [hsum]
theorem hall_snoc (S : Stk) (e) : hall (S ++ [e]) = hall S ++ T.hdsL e.1 := by simp [hall]

structure HdC (n₀ : Nat) (w : World) (M Bl base : Nat) (st : Value) (S : Stk) (L : List Int) (wr : World) : Prop where
  own : wr.ownsRow base 23 1 st S.length (hvals S)
  ents : ∀ e ∈ S, IsArgsp (fun b => b < n₀ ∨ b = Bl) wr e.1 e.2.1 e.2.2 ∧ e.1 ≠ []
  map : CntM wr M L
  below : Below w.heap.size w wr
  lt : Bl < wr.heap.size ∧ base ≤ wr.heap.size

theorem own_ge {w : World} {base n size : Nat} {e : TypeId} {v : Value} {xs : List Value} (ho : w.ownsRow base e size v n xs) {b : Nat} (h : v.ownBlock = some b) : base ≤ b := by
  rcases ho.2 with ⟨rfl, _⟩ | ⟨g, cap, cur, rfl, hb, _⟩
  · cases h
  · simp [Value.ownBlock] at h; omega
theorem hd_pop {w : World} {base : Nat} {e : TypeId} {g n cap : Nat} {xs : List Value} {x : Value} (h : w.ownsRow base e 1 (.slice (some ⟨g, 0, none⟩) (n + 1) cap) (n + 1) (xs ++ [x])) : w.ownsRow base e 1 (.slice (some ⟨g, 0, none⟩) n cap) n xs := by
  obtain ⟨h1, h2⟩ := h
  refine ⟨by simp at h1; omega, ?_⟩
  rcases h2 with ⟨h2, _⟩ | ⟨g', cap', cur, h2, h3, h4, h5, h6, h7, h8⟩
  · cases h2
  · cases h2
    refine .inr ⟨g, cap, cur, rfl, h3, h4, by omega, h6, h7, ?_⟩
    have : (cur.toList.take ((n + 1) * 1)).take (n * 1) = (xs ++ [x]).take (n * 1) := by rw [h8]
    rw [List.take_take] at this
    rw [show min (n * 1) ((n + 1) * 1) = n * 1 from by omega] at this
    rw [this, List.take_append_of_le_length (by simp at h1; omega), List.take_of_length_le (by simp at h1; omega)]

section
variable {n₀ : Nat} {w : World} {M Bl base : Nat} {st : Value} {S : Stk} {L : List Int} {wr w' : World}
theorem HdC.later (h : HdC n₀ w M Bl base st S L wr) (hn : n₀ ≤ w.heap.size) (hB : Below wr.heap.size wr w') : HdC n₀ w M Bl base st S L w' := by
  have hsz := h.below.size
  refine ⟨ownsRow_later h.own hB, fun e he => ⟨(h.ents e he).1.keep (fun b hb => hB.block b (by rcases hb with hb | rfl; omega; exact h.lt.1)) (fun _ x => x), (h.ents e he).2⟩, h.map.kept (hB.block _ h.map.lt), h.below.trans (hB.mono hsz), ?_⟩
  have := hB.size
  exact ⟨by have := h.lt.1; omega, by have := h.lt.2; omega⟩
theorem HdC.put (h : HdC n₀ w M Bl base st S L wr) (hn : n₀ ≤ w.heap.size) (hM : w.heap.size ≤ M) (hMB : M ≠ Bl) (hMb : M < base) {L' : List Int} (hm : CntM w' M L') (hg : wr.grownBy w' (some M)) : HdC n₀ w M Bl base st S L' w' := by
  have hsz := h.below.size
  have hne : st.ownBlock ≠ some M := fun e => by have := own_ge h.own e; omega
  refine ⟨h.own.kept hg (.inr hne), fun e he => ⟨(h.ents e he).1.keep (fun b hb => hg.block b (by rcases hb with hb | rfl; omega; exact h.lt.1) (fun e => by cases e; rcases hb with hb | hb; omega; exact hMB hb)) (fun _ x => x), (h.ents e he).2⟩, hm, h.below.grown hg (by omega) (fun k e => by cases e; exact hM), ?_⟩
  have := hg.size
  exact ⟨by have := h.lt.1; omega, by have := h.lt.2; omega⟩
theorem HdC.push (h : HdC n₀ w M Bl base st S L wr) (hn : n₀ ≤ w.heap.size) (hM : w.heap.size ≤ M) (hMb : M < base) (hBb : Bl < base) (hwb : w.heap.size ≤ base) {st' : Value} {ts : List T} {a : Option Addr} {c : Nat} {ob : Obj} (hA : IsArgsp (fun b => b < n₀ ∨ b = Bl) wr ts a c) (hne : ts ≠ [])
    (hown : w'.ownsRow base 23 1 st' (S.length + 1) (hvals S ++ [.slice a ts.length c])) (hgr : (wr.alloc ob).grownBy w' st.ownBlock) : HdC n₀ w M Bl base st' (S ++ [(ts, a, c)]) L w' := by
  have hsz := h.below.size
  have hge : ∀ b, st.ownBlock = some b → base ≤ b := fun b e => own_ge h.own e
  have hk : ∀ b, b < wr.heap.size → b < base → w'.heap[b]? = wr.heap[b]? := fun b hb hbb =>
    (hgr.block b (by simp; omega) (fun e => by have := hge b e.symm; omega)).trans (Below.heap_alloc _ _ _ hb)
  have hok : ∀ b, (b < n₀ ∨ b = Bl) → w'.heap[b]? = wr.heap[b]? := fun b hb => by
    rcases hb with hb | rfl
    · exact hk b (by omega) (by omega)
    · exact hk b h.lt.1 hBb
  refine ⟨by simpa [hvals] using hown, fun e he => ?_, h.map.kept (hk M h.map.lt hMb), (h.below.alloc hsz ob).grown hgr (by simp; omega) (fun k e => by have := hge k e; omega), ?_⟩
  · rcases List.mem_append.1 he with he | he
    · exact ⟨(h.ents e he).1.keep hok (fun _ x => x), (h.ents e he).2⟩
    · rw [List.mem_singleton.1 he]
      exact ⟨hA.keep hok (fun _ x => x), hne⟩
  · have := hgr.size
    simp at this
    exact ⟨by have := h.lt.1; omega, by have := h.lt.2; omega⟩
theorem HdC.stack {ts : List T} {a : Option Addr} {c : Nat} (h : HdC n₀ w M Bl base st (S ++ [(ts, a, c)]) L wr) :
    ∃ gs cap, st = .slice (some ⟨gs, 0, none⟩) (S.length + 1) cap ∧ S.length + 1 ≤ cap ∧ cap ≤ maxLen ∧ wr.cell? ⟨gs, S.length, none⟩ = some (.slice a ts.length c) ∧ HdC n₀ w M Bl base (.slice (some ⟨gs, 0, none⟩) S.length cap) S L wr := by
  have hcells := fun g hg => h.own.cells (g := g) hg
  have hown := h.own
  simp only [List.length_append, List.length_cons, List.length_nil, Nat.zero_add] at hown
  rcases hown.2 with ⟨_, h0⟩ | ⟨gs, cap, cur, rfl, hb, hh, hn, hc, _⟩
  · omega
  · refine ⟨gs, cap, rfl, hn, hc, ?_, ⟨hd_pop (by simpa [hvals] using hown), fun e he => h.ents e (List.mem_append_left _ he), h.map, h.below, h.lt⟩⟩
    have := hcells gs rfl S.length (.slice a ts.length c) (by simp [hvals])
    rw [addr_add] at this
    simpa using this
theorem HdC.nilStack (h : HdC n₀ w M Bl base st [] L wr) : ∃ a c, st = .slice a 0 c := by
  rcases h.own.2 with ⟨h, _⟩ | ⟨gs, cap, cur, h, _⟩
  · exact ⟨none, 0, h⟩
  · exact ⟨_, _, h⟩
theorem HdC.len (h : HdC n₀ w M Bl base st S L wr) : S.length ≤ hsum S := by
  have h2 := h.ents
  clear h
  induction S with
  | nil => simp [hsum]
  | cons e S ih =>
    have h1 := ih (fun e he => h2 e (List.mem_cons_of_mem _ he))
    have h3 := T.sizes_ge_length e.1
    have h4 : 0 < e.1.length := List.length_pos_iff.2 (h2 e (List.mem_cons_self ..)).2
    simp [hsum] at h1 ⊢
    omega
end

theorem infoTs : (Tryz.prog.info? 23).map (fun i => (i.zero, i.size, i.bytes)) = some (some (.slice none 0 0), 1, 24) := by kernel_rfl


end Go.Proofs.YtleohdddaadbeaaGreat

/- Sums over maps, weights: what names no function (split off Wg). -/
namespace Go.Proofs.YtleohdddaadbeaaGreat
set_option linter.unusedVariables false
set_option linter.unusedSimpArgs false
open Go.RowKit Go.Maps

/-- What a map of counts tells at an entry that comes. -/
theorem CntM.entry {L : List Int} {D : DataW Unit} (h3 : ∀ v, hwf v → Maps.has D (.int .i64 v) = decide (v ∈ L) ∧ (v ∈ L → ∀ z, D.atKey (.int .i64 v) z = .lit (.int .i64 (L.count v : Nat)))) {x c : Int} (hx : (Lit.int .i64 x).wf = true)
    (hat : ∀ zd, D.atKey (.int .i64 x) zd = .lit (.int .i64 c)) : x ∈ L ∧ c = (L.count x : Nat) := by
  obtain ⟨q1, q2⟩ := h3 x (hwf_of hx)
  by_cases hm : x ∈ L
  · refine ⟨hm, ?_⟩
    have := (hat .nil).symm.trans (q2 hm .nil)
    simpa using this
  · have h1 := hat .nil
    rw [Maps.atKey_of_not_has (by rw [q1]; simp [hm])] at h1
    cases h1

theorem sameKey_int (a b : Int) : (Lit.int .i64 a).sameKey (.int .i64 b) = decide (a = b) := by
  by_cases h : a = b <;> simp [Lit.sameKey, h]

/-- The sum over those numbers that have come. -/
def sumN (f : Int → Int) (left : Lit → Bool) : List Int → Int
  | [] => 0
  | h :: L => (if left (.int .i64 h) then 0 else f h) + sumN f left L
def sumA (f : Int → Int) : List Int → Int
  | [] => 0
  | h :: L => f h + sumA f L
theorem sumN_start {f : Int → Int} {left : Lit → Bool} : ∀ {L : List Int}, (∀ h ∈ L, left (.int .i64 h) = true) → sumN f left L = 0
  | [], _ => rfl
  | h :: L, hl => by
    have := sumN_start (f := f) (L := L) (fun x hx => hl x (List.mem_cons_of_mem _ hx))
    simp [sumN, hl h (List.mem_cons_self ..), this]
theorem sumN_end {f : Int → Int} {left : Lit → Bool} (hl : ∀ kl, left kl = false) : ∀ {L : List Int}, sumN f left L = sumA f L
  | [] => rfl
  | h :: L => by simp [sumN, sumA, hl, sumN_end hl (L := L)]
theorem sumN_step {f : Int → Int} {left : Lit → Bool} {x : Int} (hx : left (.int .i64 x) = true) : ∀ {L : List Int}, sumN f (fun z => left z && !z.sameKey (.int .i64 x)) L = sumN f left L + (L.count x : Nat) * f x
  | [] => by simp [sumN]
  | h :: L => by
    have ih := sumN_step (f := f) hx (L := L)
    simp only [sumN, ih, sameKey_int]
    by_cases e : h = x
    · subst e
      simp [hx, List.count_cons, Int.add_mul]
      omega
    · have e' : ¬ h = x := e
      simp only [e', decide_false, Bool.not_false, Bool.and_true, List.count_cons_of_ne (fun q => e q)]
      omega
theorem sumN_bound {f : Int → Int} {left : Lit → Bool} : ∀ {L : List Int}, (∀ h ∈ L, 0 ≤ f h ∧ f h ≤ 1000) → 0 ≤ sumN f left L ∧ sumN f left L ≤ 1000 * L.length
  | [], _ => by simp [sumN]
  | h :: L, hl => by
    have h1 := sumN_bound (f := f) (left := left) (L := L) (fun x hx => hl x (List.mem_cons_of_mem _ hx))
    have h2 := hl h (List.mem_cons_self ..)
    simp only [sumN, List.length_cons]
    split <;> omega
theorem sumA_append (f : Int → Int) : ∀ (a b : List Int), sumA f (a ++ b) = sumA f a + sumA f b
  | [], b => by simp [sumA]
  | h :: a, b => by simp [sumA, sumA_append f a b]; omega
mutual
theorem sumA_hds (g : Sg) : (t : T) → sumA (wo g) t.hds = wtT g t
  | .node h ts => by simp [T.hds, sumA, wtT, sumA_hdsL g ts]
theorem sumA_hdsL (g : Sg) : (ts : List T) → sumA (wo g) (T.hdsL ts) = wtL g ts
  | [] => rfl
  | t :: ts => by simp [T.hdsL, sumA_append, wtL, sumA_hds g t, sumA_hdsL g ts]
end

/-- Is the head a variable's or a symbol's? -/
def inS (g : Sg) (h : Int) : Prop := h < 0 ∨ h.toNat < g.length
mutual
theorem fits_heads {g : Sg} : (t : T) → fitsT g t = true → bad (T.subs 1 t) = false → ∀ h ∈ t.hds, inS g h
  | .node h ts, hf, hb, x, hx => by
    rcases List.mem_cons.1 hx with rfl | hx
    · by_cases q : x < 0
      · exact .inl q
      · simp only [fitsT, q, decide_false, Bool.false_or, Bool.and_eq_true, armOk] at hf
        obtain ⟨h1, _⟩ := hf
        split at h1
        · rename_i y hy; exact .inr (List.getElem?_eq_some_iff.1 hy).1
        · simp at h1
    · exact fits_headsL ts (fits_args hf hb) x hx
theorem fits_headsL {g : Sg} : (ts : List T) → (∀ t ∈ ts, fitsT g t = true ∧ bad (T.subs 1 t) = false) → ∀ h ∈ T.hdsL ts, inS g h
  | [], _, x, hx => by simp [T.hdsL] at hx
  | t :: ts, h, x, hx => by
    rcases List.mem_append.1 hx with hx | hx
    · exact fits_heads t (h t (List.mem_cons_self ..)).1 (h t (List.mem_cons_self ..)).2 x hx
    · exact fits_headsL ts (fun s hs => h s (List.mem_cons_of_mem _ hs)) x hx
end
theorem wo_bound {g : Sg} (hr : rightG g = true) {h : Int} (hs : inS g h) : 1 ≤ wo g h ∧ wo g h ≤ 1000 := by
  unfold wo
  rcases hs with hs | hs
  · simp [hs]
  · by_cases q : h < 0
    · simp [q]
    · rw [if_neg q, List.getElem?_eq_getElem hs]
      simp only [rightG, Bool.and_eq_true, Bool.not_eq_true', List.any_eq_false] at hr
      have := hr.1.2 g[h.toNat] (List.getElem_mem hs)
      simp only [badSy, Bool.or_eq_true, decide_eq_true_eq, not_or] at this
      dsimp only
      omega

theorem mul_small (n : Nat) (z : Int) (h1 : n ≤ 400) (h2 : 0 ≤ z) (h3 : z ≤ 1000) : 0 ≤ (n : Int) * z ∧ (n : Int) * z ≤ 400000 := by
  have h0 : (0 : Int) ≤ (n : Int) := Int.natCast_nonneg _
  refine ⟨Int.mul_nonneg h0 h2, ?_⟩
  have q1 : (n : Int) * z ≤ 400 * z := Int.mul_le_mul_of_nonneg_right (by omega) h2
  omega

/-- What Weight returns. -/
def weightV (g : Sg) (t : T) : Value := if errT g t = 0 then .tuple #[.int .i64 (wtT g t), .int .i64 0] else .tuple #[.int .i64 0, .int .i64 (errT g t)]
theorem errT_ok {g : Sg} {t : T} (h : errT g t = 0) : rightG g = true ∧ t.check = 0 ∧ fitsT g t = true ∧ predL g t.args = false := by
  unfold errT at h
  by_cases h1 : rightG g = true
  · rw [if_pos h1] at h
    by_cases h2 : t.check = 0
    · rw [if_pos h2] at h
      by_cases h3 : fitsT g t = true
      · rw [if_pos h3] at h
        by_cases h4 : predL g t.args = true
        · rw [if_pos h4] at h; cases h
        · exact ⟨h1, h2, h3, by simpa using h4⟩
      · rw [if_neg h3] at h; cases h
    · rw [if_neg h2] at h; exact absurd h h2
  · rw [if_neg h1] at h; cases h
theorem grownBy_drew (W : World) (n : Nat) : W.grownBy (W.drewN n) none := ⟨rfl, rfl, rfl, Nat.le_refl _, fun _ _ _ => rfl⟩

end Go.Proofs.YtleohdddaadbeaaGreat

/- Weights of parts and of terms put: plain facts. -/
namespace Go.Proofs.YtleohdddaadbeaaGreat
set_option linter.unusedVariables false
set_option linter.unusedSimpArgs false
open Go.RowKit

theorem check_of {t : T} (h1 : t.size ≤ 400) (h2 : t.depth ≤ 40) (h3 : bad (T.subs 1 t) = false) : t.check = 0 := by
  unfold T.check
  rw [if_neg (by omega), if_neg (by omega), h3]; rfl
theorem depth_mem : ∀ {ts : List T} {s : T}, s ∈ ts → s.depth ≤ T.depths ts
  | t :: ts, s, h => by
    simp only [T.depths]
    rcases List.mem_cons.1 h with rfl | h
    · omega
    · have := depth_mem h; omega
theorem size_mem : ∀ {ts : List T} {s : T}, s ∈ ts → s.size ≤ T.sizes ts
  | t :: ts, s, h => by
    simp only [T.sizes]
    rcases List.mem_cons.1 h with rfl | h
    · omega
    · have := size_mem h; omega
/-- What Term asks of a term, when the signature is right. -/
def OkT (g : Sg) (t : T) : Prop := t.check = 0 ∧ fitsT g t = true ∧ predL g t.args = false
theorem okT_iff {g : Sg} {t : T} (hr : rightG g = true) : errT g t = 0 ↔ OkT g t := by
  constructor
  · intro h; obtain ⟨_, h2, h3, h4⟩ := errT_ok h; exact ⟨h2, h3, h4⟩
  · rintro ⟨h2, h3, h4⟩
    unfold errT
    rw [if_pos hr, if_pos h2, if_pos h3, h4]; rfl
theorem OkT.arg {g : Sg} {t s : T} (h : OkT g t) (hs : s ∈ t.args) : OkT g s := by
  obtain ⟨h1, h2, h3⟩ := h
  obtain ⟨c1, c2, c3⟩ := check_ok h1
  obtain ⟨f1, f2⟩ := fits_args h2 c3 s hs
  refine ⟨check_of (by have := size_mem hs; have := T.size_eq t; omega) (by have := depth_mem hs; have := T.depth_eq t; omega) f2, f1, ?_⟩
  rw [predL_any, List.any_eq_false] at h3
  have := h3 s hs
  rw [predT_eq] at this
  simp only [Bool.or_eq_true, not_or, Bool.not_eq_true] at this
  exact this.2
theorem OkT.heads {g : Sg} {t : T} (h : OkT g t) : ∀ x ∈ t.hds, inS g x := fits_heads t h.2.1 (check_ok h.1).2.2
theorem sumA_nonneg {f : Int → Int} : ∀ {L : List Int}, (∀ h ∈ L, 0 ≤ f h) → 0 ≤ sumA f L
  | [], _ => by simp [sumA]
  | h :: L, hl => by
    have h1 := sumA_nonneg (L := L) (fun x hx => hl x (List.mem_cons_of_mem _ hx))
    have h2 := hl h (List.mem_cons_self ..)
    simp only [sumA]; omega
theorem hds_mem {ts : List T} {s : T} (h : s ∈ ts) : ∀ x ∈ s.hds, x ∈ T.hdsL ts := by
  induction ts with
  | nil => simp at h
  | cons t ts ih =>
    intro x hx
    simp only [T.hdsL, List.mem_append]
    rcases List.mem_cons.1 h with rfl | h
    · exact .inl hx
    · exact .inr (ih h x hx)
theorem wtL_mem {g : Sg} {ts : List T} {s : T} (h : s ∈ ts) (hp : ∀ x ∈ T.hdsL ts, 0 ≤ wo g x) : wtT g s ≤ wtL g ts := by
  induction ts with
  | nil => simp at h
  | cons t ts ih =>
    simp only [wtL]
    have h1 : 0 ≤ wtL g ts := by rw [← sumA_hdsL]; exact sumA_nonneg (fun x hx => hp x (by simp [T.hdsL, hx]))
    have h2 : 0 ≤ wtT g t := by rw [← sumA_hds]; exact sumA_nonneg (fun x hx => hp x (by simp [T.hdsL, hx]))
    rcases List.mem_cons.1 h with rfl | h
    · omega
    · have := ih h (fun x hx => hp x (by simp [T.hdsL, hx])); omega
theorem wt_pos {g : Sg} {t : T} (hr : rightG g = true) (h : OkT g t) : 1 ≤ wtT g t := by
  have hh := h.heads
  rw [wtT_eq]
  have h1 := (wo_bound hr (hh t.head (by rw [T.hds_eq]; simp))).1
  have h2 : 0 ≤ wtL g t.args := by
    rw [← sumA_hdsL]
    exact sumA_nonneg (fun x hx => by have := (wo_bound hr (hh x (by rw [T.hds_eq]; simp [hx]))).1; omega)
  omega
theorem wt_arg {g : Sg} {t s : T} (hr : rightG g = true) (h : OkT g t) (hs : s ∈ t.args) : wtT g s < wtT g t := by
  have hh := h.heads
  rw [wtT_eq g t]
  have h1 := (wo_bound hr (hh t.head (by rw [T.hds_eq]; simp))).1
  have h2 := wtL_mem hs (fun x hx => by have := (wo_bound hr (hh x (by rw [T.hds_eq]; simp [hx]))).1; omega) (g := g)
  omega
/-- A part: right, and lighter. -/
theorem part_ok {g : Sg} (hr : rightG g = true) : ∀ {p : List Int} {t u : T}, OkT g t → t.at p = some u → OkT g u ∧ wtT g u ≤ wtT g t ∧ (p ≠ [] → wtT g u < wtT g t)
  | [], t, u, h, hp => by
    simp [T.at] at hp; subst hp
    exact ⟨h, Int.le_refl _, fun e => absurd rfl e⟩
  | i :: p, t, u, h, hp => by
    simp only [T.at] at hp
    split at hp
    · cases hp
    · cases hx : t.args[i.toNat]? with
      | none => rw [hx] at hp; cases hp
      | some x =>
        rw [hx] at hp
        have hm := List.mem_of_getElem? hx
        obtain ⟨h1, h2, _⟩ := part_ok hr (h.arg hm) hp
        have h3 := wt_arg hr h hm
        exact ⟨h1, by omega, fun _ => by omega⟩

end Go.Proofs.YtleohdddaadbeaaGreat
