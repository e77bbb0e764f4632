/- Contract of Put. -/
import Derived.Test.YtbfanbaijombaaaCopy
import Derived.Test.YtbfanbaijombaaaQ6a
namespace Go.Proofs.Ytbfanbaijombaaa
set_option linter.unusedVariables false
set_option linter.unusedSimpArgs false
open Go.RowKit

theorem modify_congr {α : Type} {l : List α} {n : Nat} {f g : α → α} {x : α} (hx : l[n]? = some x) (h : f x = g x) : l.modify n f = l.modify n g := by
  apply List.ext_getElem?
  intro i
  simp only [List.getElem?_modify]
  by_cases e : n = i
  · subst e; simp [hx, h]
  · simp [e]
theorem T.put_append {t s : T} (u : T) {p : List Int} (q : List Int) (h : t.at p = some s) : t.put u (p ++ q) = t.put (s.put u q) p := by
  induction p generalizing t with
  | nil => simp [T.at] at h; subst h; simp [T.put]
  | cons i p ih =>
    simp only [T.at] at h
    split at h
    · cases h
    · cases hx : t.args[i.toNat]? with
      | none => rw [hx] at h; cases h
      | some x =>
        rw [hx] at h
        simp only [List.cons_append, T.put]
        rw [modify_congr (g := fun y => y.put (s.put u q) p) hx (ih h)]
theorem T.put_take {t s : T} (u : T) {p : List Int} {k n : Nat} (h : t.at (p.take k) = some s) (hi : p[k]? = some (n : Int)) : t.put u (p.take (k + 1)) = t.put (.node s.head (s.args.modify n (fun _ => u))) (p.take k) := by
  obtain ⟨hk, e⟩ := List.getElem?_eq_some_iff.1 hi
  rw [List.take_succ_eq_append_getElem hk, T.put_append u _ h, e]; rfl

def okP (B : Nat) (W : World) (b : Nat) : Prop := b < W.heap.size ∧ b ≠ B

/-- Whatever part is laid at the spot, the whole is the term with that part put. -/
def Wand (B0 : Nat) (t : T) (p : List Int) (b o : Nat) (wr : World) : Prop :=
  ∀ (W : World) (s' : T), wr.heap.size ≤ W.heap.size → (∀ q, q < wr.heap.size → q ≠ b → W.heap[q]? = wr.heap[q]?) → (∀ j, j ≠ o → j ≠ o + 1 → W.cell? ⟨b, j, none⟩ = wr.cell? ⟨b, j, none⟩) →
    IsTp (okP (B0 + 2) W) W s' b o → IsTp (okP (B0 + 2) W) W (t.put s' p) B0 0

theorem rowp_modify {ok : Nat → Prop} {n₀ : Nat} {w W : World} {g : Nat} {x' : T} (hk : ∀ q, q < n₀ → W.heap[q]? = w.heap[q]?) (hok : ∀ q, q < n₀ → ok q) : ∀ (ts : List T) (n j : Nat), IsRow n₀ w ts g (j * 2) → (∀ i, i ≠ (j + n) * 2 → i ≠ (j + n) * 2 + 1 → W.cell? ⟨g, i, none⟩ = w.cell? ⟨g, i, none⟩) → (n < ts.length → IsTp ok W x' g ((j + n) * 2)) → IsRowp ok W (ts.modify n (fun _ => x')) g (j * 2)
  | [], n, j, _, _, _ => by simp [IsRowp]
  | t :: ts, n, j, hr, hc, hx => by
    simp only [IsRow] at hr
    have htail : ∀ m, (n = m + 1) → IsTp ok W t g (j * 2) := fun m hm => by
      obtain ⟨wf, p1, a, c, p2, hA⟩ := isT_iff.1 hr.1
      exact isTp_iff.2 ⟨wf, (hc _ (by omega) (by omega)).trans p1, a, c, (hc _ (by omega) (by omega)).trans p2, (isArgsp_lt.2 hA).keep hk hok⟩
    cases n with
    | zero =>
      simp only [List.modify_zero_cons, IsRowp]
      refine ⟨by simpa using hx (by simp), ?_⟩
      have h1 : ∀ (us : List T) (o : Nat), j * 2 + 1 < o → IsRow n₀ w us g o → IsRowp ok W us g o := by
        intro us
        induction us with
        | nil => intro o _ _; simp [IsRowp]
        | cons u us ih =>
          intro o ho hr
          simp only [IsRow] at hr
          simp only [IsRowp]
          obtain ⟨wf, p1, a, c, p2, hA⟩ := isT_iff.1 hr.1
          exact ⟨isTp_iff.2 ⟨wf, (hc _ (by omega) (by omega)).trans p1, a, c, (hc _ (by omega) (by omega)).trans p2, (isArgsp_lt.2 hA).keep hk hok⟩, ih (o + 2) (by omega) hr.2⟩
      exact h1 ts _ (by omega) hr.2
    | succ n =>
      simp only [List.modify_succ_cons, IsRowp]
      refine ⟨htail n rfl, ?_⟩
      have := rowp_modify hk hok ts n (j + 1) (by rw [show (j + 1) * 2 = j * 2 + 2 from by omega]; exact hr.2) (fun i h1 h2 => hc i (by omega) (by omega)) (fun h => by rw [show j + 1 + n = j + (n + 1) from by omega]; exact hx (by simp; omega))
      rw [show (j + 1) * 2 = j * 2 + 2 from by omega] at this
      exact this

theorem wand_step {B0 n₀ : Nat} {t s : T} {p : List Int} {k n b o : Nat} {wr w4 : World} {g2 c2 : Nat} (hw : Wand B0 t (p.take k) b o wr) (hat : t.at (p.take k) = some s) (hi : p[k]? = some (n : Int)) (hn : n < s.args.length) (hn0 : n₀ ≤ B0) (hB0 : B0 + 3 ≤ wr.heap.size) (hbr : b < wr.heap.size) (hbn : n₀ ≤ b)
    (hs : IsT n₀ wr s b o) (hB : Below wr.heap.size wr w4) (hN : NewRow n₀ wr.heap.size w4 s.args (some ⟨g2, 0, none⟩) c2) :
    Wand B0 t (p.take (k + 1)) g2 (n * 2) (w4.setCell ⟨b, o + 1, none⟩ (.slice (some ⟨g2, 0, none⟩) s.args.length c2)) := by
  intro W s'' hsz hq hc hI
  have hne : s.args ≠ [] := fun e => by rw [e] at hn; simp at hn
  obtain ⟨cur, hg2, hblk, hcs, hrow⟩ : ∃ cur, wr.heap.size ≤ g2 ∧ w4.heap[g2]? = some (.cells cur 25 (0, 0)) ∧ cur.size = c2 * 2 ∧ IsRow n₀ w4 s.args g2 0 := by
    rcases hN.2.2 with h | ⟨g', cur, e, h1, h2, h3, h4⟩
    · exact absurd h hne
    · cases e; exact ⟨cur, h1, h2, h3, h4⟩
  have hg2l : g2 < w4.heap.size := (Array.getElem?_eq_some_iff.1 hblk).1
  simp only [World.size_setCell] at hsz hq
  have h4 := hB.size
  have hrow5 : IsRow n₀ (w4.setCell ⟨b, o + 1, none⟩ (.slice (some ⟨g2, 0, none⟩) s.args.length c2)) s.args g2 (0 * 2) := by
    have : IsRow n₀ (w4.setCell ⟨b, o + 1, none⟩ (.slice (some ⟨g2, 0, none⟩) s.args.length c2)) s.args g2 0 :=
      (isRowp_lt s.args).1 (IsRowp.keep (fun q hq => Below.heap_setCell _ _ _ _ (by simp; omega)) (fun _ h => h) s.args (Below.heap_setCell _ _ _ _ (by simp; omega)) ((isRowp_lt s.args).2 hrow))
    simpa using this
  have hr := rowp_modify (ok := okP (B0 + 2) W) (W := W) (x' := s'') (fun q h => hq q (by omega) (by omega)) (fun q h => ⟨by omega, by omega⟩) s.args n 0 hrow5 (fun i h1 h2 => hc i (by simpa using h1) (by simpa using h2)) (fun _ => by simpa using hI)
  rw [T.put_take s'' hat hi]
  obtain ⟨swf, p1, a, c, p2, hA⟩ := isT_iff.1 hs
  have hcell : ∀ j, W.cell? ⟨b, j, none⟩ = (w4.setCell ⟨b, o + 1, none⟩ (.slice (some ⟨g2, 0, none⟩) s.args.length c2)).cell? ⟨b, j, none⟩ := fun j => World.cell?_of_block (a := ⟨b, j, none⟩) (hq b (by omega) (by omega))
  refine hw W _ (by omega) (fun q h1 h2 => ?_) (fun j h1 h2 => ?_) (isTp_iff.2 ⟨swf, ?_, some ⟨g2, 0, none⟩, c2, ?_, ?_⟩)
  · rw [hq q (by omega) (by omega), Below.heap_setCell _ _ _ _ h2, hB.block q h1]
  · rw [hcell, World.cell?_setCell_other _ _ _ _ (by intro e; simp at e <;> omega)]; exact hB.cell (p := ⟨b, j, none⟩) hbr
  · rw [hcell, World.cell?_setCell_other _ _ _ _ (by intro e; simp at e)]; exact (hB.cell (p := ⟨b, o, none⟩) hbr).trans p1
  · rw [hcell, World.cell?_setCell_same' _ _ _ (by rw [(hB.cell (p := ⟨b, o + 1, none⟩) hbr).trans p2]; rfl)]
    simp [T.args]
  · refine ⟨by simpa [T.args] using hN.1, hN.2.1, .inr ⟨g2, 0, rfl, ⟨by omega, by omega⟩, by simpa [T.args] using hr⟩⟩

def PutPost (t : T) (p : List Int) (u : T) (w : World) (e : Ending) (w' : World) : Prop :=
  (∃ s a c, t.at p = some s ∧ e = .returned (.tuple #[tm (t.put u p).head a (t.put u p).args.length c, .int .i64 0]) ∧ (Lit.int .i64 (t.put u p).head).wf = true ∧ IsArgs w'.heap.size w' (t.put u p).args a c ∧ Below w.heap.size w w') ∨
  (t.at p = none ∧ e = .returned (.tuple #[tm 0 none 0 0, .int .i64 6]) ∧ Below w.heap.size w w')

structure PutI (n₀ : Nat) (t : T) (p : List Int) (w ws : World) (k : Nat) (s : T) (b o : Nat) (wr : World) : Prop where
  at' : t.at (p.take k) = some s
  here : IsT n₀ wr s b o
  blk : Blk wr b
  low : b = w.heap.size ∨ ws.heap.size ≤ b
  wand : Wand w.heap.size t (p.take k) b o wr
  keep : ∀ q, q < ws.heap.size → q ≠ w.heap.size → wr.heap[q]? = ws.heap[q]?
  below : Below w.heap.size w wr
  size : ws.heap.size ≤ wr.heap.size

def PutL (n₀ : Nat) (t : T) (p : List Int) (w ws : World) (sp i : Value) (wr : World) : Prop :=
  ∃ (k : Nat) (s : T) (b o : Nat), k ≤ p.length ∧ i = .int .i64 k ∧ sp = .pointer (some ⟨b, o, none⟩) ∧ PutI n₀ t p w ws k s b o wr

theorem put_step {n₀ : Nat} {t s x : T} {p : List Int} {w ws wr w4 : World} {k n b o g2 c2 : Nat} (h : PutI n₀ t p w ws k s b o wr) (hn : n₀ ≤ w.heap.size) (hws : w.heap.size + 3 ≤ ws.heap.size) (hi : p[k]? = some (n : Int)) (hx : s.args[n]? = some x)
    (hB : Below wr.heap.size wr w4) (hN : NewRow n₀ wr.heap.size w4 s.args (some ⟨g2, 0, none⟩) c2) :
    PutI n₀ t p w ws (k + 1) x g2 (n * 2) (w4.setCell ⟨b, o + 1, none⟩ (.slice (some ⟨g2, 0, none⟩) s.args.length c2)) := by
  obtain ⟨hns, hxe⟩ := List.getElem?_eq_some_iff.1 hx
  have hbn : n₀ ≤ b := by rcases h.low with e | e <;> omega
  have hbl := h.blk.lt
  have hs4 := hB.size
  have hsz := h.size
  obtain ⟨cur, hg2, hblk, hcs, hrow⟩ : ∃ cur, wr.heap.size ≤ g2 ∧ w4.heap[g2]? = some (.cells cur 25 (0, 0)) ∧ cur.size = c2 * 2 ∧ IsRow n₀ w4 s.args g2 0 := by
    rcases hN.2.2 with h | ⟨g', cur, e, h1, h2, h3, h4⟩
    · rw [h] at hns; simp at hns
    · cases e; exact ⟨cur, h1, h2, h3, h4⟩
  refine ⟨?_, ?_, Blk.setCell ⟨cur, hblk⟩, .inr (by omega), wand_step h.wand h.at' hi hns hn (by omega) hbl hbn h.here hB hN, ?_, ?_, by simp; omega⟩
  · rw [T.at_take h.at' hi]; exact T.at_one (by omega) (by omega) (by simpa using hx)
  · have h1 : IsRow n₀ (w4.setCell ⟨b, o + 1, none⟩ (.slice (some ⟨g2, 0, none⟩) s.args.length c2)) s.args g2 0 :=
      (isRowp_lt s.args).1 (IsRowp.keep (fun q hq => Below.heap_setCell _ _ _ _ (by simp; omega)) (fun _ h => h) s.args (Below.heap_setCell _ _ _ _ (by simp; omega)) ((isRowp_lt s.args).2 hrow))
    simpa using h1.at hx
  · intro q h1 h2
    rw [Below.heap_setCell _ _ _ _ (by rcases h.low with e | e <;> simp <;> omega), hB.block q (by omega)]
    exact h.keep q h1 h2
  · exact (h.below.trans (hB.mono (by omega))).setCell (p := ⟨b, o + 1, none⟩) (by rcases h.low with e | e <;> simp <;> omega) _

set_option maxRecDepth 100000 in
set_option maxHeartbeats 4000000 in
theorem put_any (t : T) (ht : t.size ≤ 1000000000000) (p : List Int) (u : T) (n₀ : Nat) (a : Option Addr) (c : Nat) (ap : Option Addr) (cp : Nat) (au : Option Addr) (cu : Nat) (w : World) (hn : n₀ ≤ w.heap.size) (hwf : (Lit.int .i64 t.head).wf = true) (hA : IsArgs n₀ w t.args a c) (hP : IsIs n₀ w p ap cp) (huw : (Lit.int .i64 u.head).wf = true) (hU : IsArgs n₀ w u.args au cu) :
    Calls Try.prog 18 #[tm t.head a t.args.length c, .slice ap p.length cp, tm u.head au u.args.length cu] w (PutPost t p u w) := by
  have HWF := Lib.hid hwf
  have HA := Lib.hid hA
  have HP := Lib.hid hP
  have HUW := Lib.hid huw
  have HU := Lib.hid hU
  have hpl : p.length ≤ cp ∧ cp ≤ maxLen := ⟨hP.1, hP.2.1⟩
  unfold maxLen at hpl
  obtain ⟨hp1, hp2⟩ := hpl
  clear hwf hA hP huw hU
  have hb3 : Below w.heap.size w (((w.alloc (tmCells t.head a t.args.length c)).alloc (tmCells u.head au u.args.length cu)).alloc (tmCells 0 none 0 0)) := (((Below.refl _ w).alloc (Nat.le_refl _) _).alloc (by simp) _).alloc (by simp; omega) _
  have k0 : (((w.alloc (tmCells t.head a t.args.length c)).alloc (tmCells u.head au u.args.length cu)).alloc (tmCells 0 none 0 0)).heap[w.heap.size]? = some (.cells #[.int .i64 t.head, .slice a t.args.length c] 25 (0, 0)) := by
    rw [Below.heap_alloc _ _ _ (by simp; omega), Below.heap_alloc _ _ _ (by simp)]; exact heap_alloc_new _ _
  have k1 : (((w.alloc (tmCells t.head a t.args.length c)).alloc (tmCells u.head au u.args.length cu)).alloc (tmCells 0 none 0 0)).heap[w.heap.size + 1]? = some (.cells #[.int .i64 u.head, .slice au u.args.length cu] 25 (0, 0)) := by
    rw [Below.heap_alloc _ _ _ (by simp)]
    have := heap_alloc_new (w.alloc (tmCells t.head a t.args.length c)) (tmCells u.head au u.args.length cu)
    simpa using this
  have k2 : (((w.alloc (tmCells t.head a t.args.length c)).alloc (tmCells u.head au u.args.length cu)).alloc (tmCells 0 none 0 0)).heap[w.heap.size + 2]? = some (.cells #[.int .i64 0, .slice none 0 0] 25 (0, 0)) := by
    have := heap_alloc_new ((w.alloc (tmCells t.head a t.args.length c)).alloc (tmCells u.head au u.args.length cu)) (tmCells 0 none 0 0)
    simpa using this
  have hs3 : (((w.alloc (tmCells t.head a t.args.length c)).alloc (tmCells u.head au u.args.length cu)).alloc (tmCells 0 none 0 0)).heap.size = w.heap.size + 3 := by simp
  have E := Lib.hid (And.intro hb3 (And.intro k0 (And.intro k1 (And.intro k2 hs3))))
  clear hb3 k0 k1 k2 hs3
  go_enter Try.func18, Try.ntmps18
  go_wp2_with fail
  generalize ((w.alloc (tmCells t.head a t.args.length c)).alloc (tmCells u.head au u.args.length cu)).alloc (tmCells 0 none 0 0) = w3 at E ⊢
  obtain ⟨hb3, k0, k1, k2, hs3⟩ := E.out
  refine (at_any t p n₀ a c ap cp w3 (by omega) HWF.out (HA.out.below (hb3.mono hn)) (HP.out.below (hb3.mono hn))).mono ?_
  have K0 := Lib.hid k0
  have K1 := Lib.hid k1
  have K2 := Lib.hid k2
  have HB3 := Lib.hid hb3
  clear E k0 k1 k2 hb3
  rintro e w4 (⟨s0, a0, c0, hat, rfl, hsw, hsA, hb4⟩ | ⟨hat, rfl, hb4⟩)
  · have hz4 := hb4.size
    have hbw4 : Below w.heap.size w w4 := HB3.out.trans (hb4.mono (by omega))
    have hl4 : ∀ q, q < w.heap.size + 3 → (w4.alloc (tmCells s0.head a0 s0.args.length c0)).heap[q]? = w3.heap[q]? := fun q hq => (Below.heap_alloc _ _ _ (by omega)).trans (hb4.block q (by omega))
    have hws : Below w.heap.size w (w4.alloc (tmCells s0.head a0 s0.args.length c0)) := hbw4.alloc (by omega) _
    have m0 := (hl4 w.heap.size (by omega)).trans K0.out
    have m1 := (hl4 (w.heap.size + 1) (by omega)).trans K1.out
    have m2 := (hl4 (w.heap.size + 2) (by omega)).trans K2.out
    have hsS : w.heap.size + 3 ≤ (w4.alloc (tmCells s0.head a0 s0.args.length c0)).heap.size := by simp; omega
    have E := Lib.hid (And.intro hws (And.intro m0 (And.intro m1 (And.intro m2 hsS))))
    have HAT := Lib.hid hat
    clear hsw hsA hb4 hl4 hbw4 hws m0 m1 m2 hsS hat K0 K1 K2
    go_wp2
    generalize w4.alloc (tmCells s0.head a0 s0.args.length c0) = ws at E ⊢
    generalize w4.heap.size = b4
    obtain ⟨hws, m0, m1, m2, hsS⟩ := E.out
    have HW0 : PutL n₀ t p w ws (.pointer (some ⟨w.heap.size, 0, none⟩)) (.int .i64 ((0 : Nat) : Int)) ws := by
      refine ⟨0, t, w.heap.size, 0, Nat.zero_le _, rfl, rfl, by simp [T.at], ?_, ⟨_, m0⟩, .inl rfl, ?_, fun q _ _ => rfl, hws, Nat.le_refl _⟩
      · exact isT_iff.2 ⟨HWF.out, by simp [World.cell?, m0], a, c, by simp [World.cell?, m0], HA.out.below (hws.mono hn)⟩
      · intro W s' _ _ _ hI
        simpa [T.put] using hI
    have HW0 := Lib.hid HW0
    have M1 := Lib.hid m1
    have M2 := Lib.hid m2
    clear hws m0 m1 m2 E HB3
    go_loopw [10, 24] (fun sp i wr => PutL n₀ t p w ws sp i wr) (fun _ i _ => p.length - (intOf i).toNat)
    case atStart => exact HW0.out
    case round =>
      clear HW0
      obtain ⟨k, s, b, o, hk, rfl, rfl, h⟩ := hrel
      have hbl := h.blk.lt
      have hfz := fun j => h.blk.frozen (o := j)
      have hlow : b = w.heap.size ∨ ws.heap.size ≤ b := h.low
      have hsz := h.size
      obtain ⟨swf, p1, a1, c1, p2, hA1⟩ := isT_iff.1 h.here
      have n1 := (h.keep (w.heap.size + 1) (by omega) (by omega)).trans M1.out
      have n2 := (h.keep (w.heap.size + 2) (by omega) (by omega)).trans M2.out
      have HH := Lib.hid h
      have HA1 := Lib.hid hA1
      have hts := T.at_size h.at'
      have hsl : s.args.length ≤ 1000000000000 := by have h1 := T.size_eq s; have h2 := T.sizes_ge_length s.args; omega
      have hf0 := hfz o
      have hf1 := hfz (o + 1)
      by_cases hlt : k < p.length
      · obtain ⟨bp, op, z, rfl, hbp, hz, hcz⟩ := (HP.out.below (h.below.mono hn)).elem hlt
        have hz01 : 0 ≤ z ∧ z < s.args.length := by
          apply Classical.byContradiction
          intro hcon
          have := T.at_none h.at' hz (T.at_one_none (by omega))
          rw [HAT.out] at this; cases this
        obtain ⟨n, rfl⟩ : ∃ n : Nat, z = (n : Int) := ⟨z.toNat, by omega⟩
        have hns : n < s.args.length := by omega
        obtain ⟨x, hx⟩ : ∃ x, s.args[n]? = some x := ⟨_, List.getElem?_eq_getElem hns⟩
        have HZ := Lib.hid hz
        have HX := Lib.hid hx
        have hlc : s.args.length ≤ c1 ∧ c1 ≤ maxLen := ⟨hA1.1, hA1.2.1⟩
        clear hz hx h hA1 hfz n1 n2 hlow hts hz01
        go_wp2_with fail
        refine (clone_any s.args hsl n₀ a1 c1 wr (by omega) HA1.out).mono ?_
        rintro e w5 ⟨a2, c2, rfl, hN, hb5⟩
        obtain ⟨g2, rfl⟩ : ∃ g2, a2 = some ⟨g2, 0, none⟩ := by
          rcases hN.2.2 with h | ⟨g2, _, h, _⟩
          · rw [h] at hns; simp at hns
          · exact ⟨g2, h⟩
        have d2 := (hb5.cell (p := ⟨b, o + 1, none⟩) hbl).trans p2
        have f2 := (hb5.frozen (p := ⟨b, o + 1, none⟩) hbl).trans hf1
        have HN := Lib.hid hN
        have HB5 := Lib.hid hb5
        clear hN hb5 p1 p2 hf0 hf1 hcz
        go_wp2
        go_roundw
        case rel => exact ⟨k + 1, x, g2, n * 2, by omega, by go_num, by simp, put_step HH.out hn hsS HZ.out HX.out HB5.out HN.out⟩
        case measure => simp [intOf]; omega
      · obtain rfl : k = p.length := by omega
        have u0 : wr.cell? ⟨w.heap.size + 1, 0, none⟩ = some (.int .i64 u.head) := by simp [World.cell?, n1]
        have u1 : wr.cell? ⟨w.heap.size + 1, 1, none⟩ = some (.slice au u.args.length cu) := by simp [World.cell?, n1]
        have hat := h.at'
        rw [List.take_length] at hat
        have hbn : n₀ ≤ b := by rcases hlow with e | e <;> omega
        have hb2 : w.heap.size + 2 ≠ b := by rcases hlow with e | e <;> omega
        have hW1 : IsTp (okP (w.heap.size + 2) ((wr.setCell ⟨b, o, none⟩ (.int .i64 u.head)).setCell ⟨b, o + 1, none⟩ (.slice au u.args.length cu))) ((wr.setCell ⟨b, o, none⟩ (.int .i64 u.head)).setCell ⟨b, o + 1, none⟩ (.slice au u.args.length cu)) (t.put u p) w.heap.size 0 := by
          have hw := h.wand
          rw [List.take_length] at hw
          refine hw _ u (by simp) (fun q _ hq => ?_) (fun j h1 h2 => ?_) (isTp_iff.2 ⟨HUW.out, ?_, au, cu, ?_, ?_⟩)
          · rw [Below.heap_setCell _ _ _ _ hq, Below.heap_setCell _ _ _ _ hq]
          · rw [World.cell?_setCell_other _ _ _ _ (by intro e; simp at e <;> omega), World.cell?_setCell_other _ _ _ _ (by intro e; simp at e <;> omega)]
          · rw [World.cell?_setCell_other _ _ _ _ (by intro e; simp at e)]
            exact World.cell?_setCell_same' _ _ _ (by rw [p1]; rfl)
          · exact World.cell?_setCell_same' _ _ _ (by rw [World.cell?_setCell_other _ _ _ _ (by intro e; simp at e), p2]; rfl)
          · refine (isArgsp_lt.2 (HU.out.below (h.below.mono hn))).keep (fun q hq => ?_) (fun q hq => ⟨by simp; omega, by omega⟩)
            rw [Below.heap_setCell _ _ _ _ (by simp; omega), Below.heap_setCell _ _ _ _ (by simp; omega)]
        have hbw1 : Below w.heap.size w ((wr.setCell ⟨b, o, none⟩ (.int .i64 u.head)).setCell ⟨b, o + 1, none⟩ (.slice au u.args.length cu)) := (h.below.setCell (p := ⟨b, o, none⟩) (by rcases hlow with e | e <;> simp <;> omega) _).setCell (p := ⟨b, o + 1, none⟩) (by rcases hlow with e | e <;> simp <;> omega) _
        have n3 : ((wr.setCell ⟨b, o, none⟩ (.int .i64 u.head)).setCell ⟨b, o + 1, none⟩ (.slice au u.args.length cu)).heap[w.heap.size + 2]? = some (.cells #[.int .i64 0, .slice none 0 0] 25 (0, 0)) := by
          rw [Below.heap_setCell _ _ _ _ hb2, Below.heap_setCell _ _ _ _ hb2]; exact n2
        obtain ⟨vwf, v0, av, cv, v1, hIv⟩ := isTp_iff.1 hW1
        have r0 : ((wr.setCell ⟨b, o, none⟩ (.int .i64 u.head)).setCell ⟨b, o + 1, none⟩ (.slice au u.args.length cu)).cell? ⟨w.heap.size + 2, 0, none⟩ = some (.int .i64 0) := by simp only [World.cell?, n3]; rfl
        have r1 : ((wr.setCell ⟨b, o, none⟩ (.int .i64 u.head)).setCell ⟨b, o + 1, none⟩ (.slice au u.args.length cu)).cell? ⟨w.heap.size + 2, 1, none⟩ = some (.slice none 0 0) := by simp only [World.cell?, n3]; rfl
        have rf0 : ((wr.setCell ⟨b, o, none⟩ (.int .i64 u.head)).setCell ⟨b, o + 1, none⟩ (.slice au u.args.length cu)).frozen? ⟨w.heap.size + 2, 0, none⟩ = false := by simp only [World.frozen?, n3]; rfl
        have rf1 : ((wr.setCell ⟨b, o, none⟩ (.int .i64 u.head)).setCell ⟨b, o + 1, none⟩ (.slice au u.args.length cu)).frozen? ⟨w.heap.size + 2, 1, none⟩ = false := by simp only [World.frozen?, n3]; rfl
        have HIV := Lib.hid hIv
        have HVW := Lib.hid vwf
        have HBW := Lib.hid hbw1
        have HAT' := Lib.hid hat
        clear hfz h hA1 HA1 hts hsl n1 n2 n3 hW1 hIv vwf hbw1 hat swf
        go_wp2
        refine bodyPost_ret (v := .tuple #[tm (t.put u p).head av (t.put u p).args.length cv, .int .i64 0]) (by simp [results, Try.results18, go_sem, r0, r1]) rfl (.inl ⟨s, av, cv, HAT'.out, rfl, HVW.out, ?_, ?_⟩)
        · exact ((HIV.out.keep (fun q hq => (Below.heap_setCell _ _ _ _ (by simpa using hq.2)).trans (Below.heap_setCell _ _ _ _ (by simpa using hq.2))) (fun q hq => hq.1)).toArgs (fun q hq => by simpa using hq))
        · exact (HBW.out.setCell (p := ⟨w.heap.size + 2, 0, none⟩) (by simp) _).setCell (p := ⟨w.heap.size + 2, 1, none⟩) (by simp) _
  · have hz4 := hb4.size
    have hl4 : ∀ q, q < w.heap.size + 3 → (w4.alloc (tmCells 0 none 0 0)).heap[q]? = w3.heap[q]? := fun q hq => (Below.heap_alloc _ _ _ (by omega)).trans (hb4.block q (by omega))
    have hws : Below w.heap.size w (w4.alloc (tmCells 0 none 0 0)) := (HB3.out.trans (hb4.mono (by omega))).alloc (by omega) _
    have m2 := (hl4 (w.heap.size + 2) (by omega)).trans K2.out
    have r0 : (w4.alloc (tmCells 0 none 0 0)).cell? ⟨w.heap.size + 2, 0, none⟩ = some (.int .i64 0) := by simp only [World.cell?, m2]; rfl
    have r1 : (w4.alloc (tmCells 0 none 0 0)).cell? ⟨w.heap.size + 2, 1, none⟩ = some (.slice none 0 0) := by simp only [World.cell?, m2]; rfl
    have rf0 : (w4.alloc (tmCells 0 none 0 0)).frozen? ⟨w.heap.size + 2, 0, none⟩ = false := by simp only [World.frozen?, m2]; rfl
    have rf1 : (w4.alloc (tmCells 0 none 0 0)).frozen? ⟨w.heap.size + 2, 1, none⟩ = false := by simp only [World.frozen?, m2]; rfl
    have HWS := Lib.hid hws
    have HAT := Lib.hid hat
    clear hl4 hws m2 hb4 hat K0 K1 K2
    go_wp2
    refine bodyPost_ret (v := .tuple #[tm 0 none 0 0, .int .i64 6]) (by simp [results, Try.results18, go_sem, r0, r1]) rfl (.inr ⟨HAT.out, rfl, ?_⟩)
    exact (HWS.out.setCell (p := ⟨w.heap.size + 2, 0, none⟩) (by simp) _).setCell (p := ⟨w.heap.size + 2, 1, none⟩) (by simp) _

end Go.Proofs.Ytbfanbaijombaaa
