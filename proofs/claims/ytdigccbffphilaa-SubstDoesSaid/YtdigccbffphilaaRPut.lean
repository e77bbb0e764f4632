/- Contract of the reference's put. -/
import Derived.Test.YtdigccbffphilaaRAt
import Derived.Test.YtdigccbffphilaaRCopy
import Derived.Test.YtdigccbffphilaaPut
namespace Go.Proofs.Ytdigccbffphilaa
set_option linter.unusedVariables false
set_option linter.unusedSimpArgs false
open Go.RowKit

/-- What put answers: a term, whose blocks are old or new. -/
def RPutPost (x : T) (n₀ : Nat) (w : World) (e : Ending) (w' : World) : Prop :=
  ∃ a2 c2, e = .returned (tm x.head a2 x.args.length c2) ∧ (Lit.int .i64 x.head).wf = true ∧ IsArgsp (fun b => b < n₀ ∨ w.heap.size ≤ b ∧ b < w'.heap.size) w' x.args a2 c2 ∧ Below w.heap.size w w'
def okRP (n₀ : Nat) (w : World) (v : Value) (wr : World) (b : Nat) : Prop := b < n₀ ∨ (w.heap.size + 4 ≤ b ∧ b < wr.heap.size ∧ v.ownBlock ≠ some b)
def RPutI (h : Int) (ts : List T) (n₀ : Nat) (w w3 : World) (i : Value) (wr : World) : Prop :=
  ∃ (k : Nat) (v : Value) (xs : List Value), k ≤ ts.length ∧ i = .int .i64 k ∧ wr.heap[w.heap.size + 3]? = some (.cells #[.int .i64 h, v] 24 (0, 0)) ∧
    wr.ownsRow (w.heap.size + 4) 24 2 v k xs ∧ RowVals (okRP n₀ w v wr) wr (ts.take k) xs ∧ Below (w.heap.size + 3) w3 wr

theorem rput_step {h : Int} {ts : List T} {n₀ : Nat} {s : T} {w w3 wr w4 w5 : World} {k : Nat} {v : Value} {xs : List Value} {a2 : Option Addr} {c2 g5 cap5 : Nat} {ob : Obj} (hn : n₀ ≤ w.heap.size) (hs : ts[k]? = some s) (hsw : (Lit.int .i64 s.head).wf = true)
    (hout : wr.heap[w.heap.size + 3]? = some (.cells #[.int .i64 h, v] 24 (0, 0))) (hown : wr.ownsRow (w.heap.size + 4) 24 2 v k xs) (hrv : RowVals (okRP n₀ w v wr) wr (ts.take k) xs)
    (hB : Below (w.heap.size + 3) w3 wr) (hz : w.heap.size + 4 ≤ wr.heap.size) (hI4 : IsArgsp (fun b => b < n₀ ∨ wr.heap.size ≤ b ∧ b < w4.heap.size) w4 s.args a2 c2) (hB4 : Below wr.heap.size wr w4)
    (hown5 : w5.ownsRow (w.heap.size + 4) 24 2 (.slice (some ⟨g5, 0, none⟩) (k + 1) cap5) (k + 1) (xs ++ [.int .i64 s.head, .slice a2 s.args.length c2])) (hgrow5 : (w4.alloc ob).grownBy w5 v.ownBlock)
    (hat5 : v.ownBlock = some g5 ∨ g5 = w4.heap.size + 1) :
    RPutI h ts n₀ w w3 (.int .i64 ((k + 1 : Nat) : Int)) (w5.setCell ⟨w.heap.size + 3, 1, none⟩ (.slice (some ⟨g5, 0, none⟩) (k + 1) cap5)) := by
  obtain ⟨hk, hks⟩ := List.getElem?_eq_some_iff.1 hs
  have hz4 : wr.heap.size ≤ w4.heap.size := hB4.size
  have hz5 : w4.heap.size + 1 ≤ w5.heap.size := by have := hgrow5.size; simpa using this
  have hlt := hown.lt
  have hbk : ∀ b, b < w4.heap.size → v.ownBlock ≠ some b → b ≠ w.heap.size + 3 → (w5.setCell ⟨w.heap.size + 3, 1, none⟩ (.slice (some ⟨g5, 0, none⟩) (k + 1) cap5)).heap[b]? = w4.heap[b]? := fun b h1 h2 h3 =>
    (Below.heap_setCell _ _ _ _ h3).trans ((hgrow5.block b (by simp; omega) (fun e => h2 e.symm)).trans (Below.heap_alloc _ _ _ h1))
  have hg5 : ∀ b, b < w4.heap.size → v.ownBlock ≠ some b → g5 ≠ b := fun b h1 h2 e => by
    subst e
    rcases hat5 with h | h
    · exact h2 h
    · omega
  have hlow : ∀ b, b < n₀ → v.ownBlock ≠ some b := fun b hb e => by have := hlt _ e; omega
  refine ⟨k + 1, _, _, by omega, rfl, ?_, ownsRow_setCell_below hown5 (by simp) _, ?_, ?_⟩
  · have h5 : w5.heap[w.heap.size + 3]? = some (.cells #[.int .i64 h, v] 24 (0, 0)) :=
      ((hgrow5.block _ (by simp; omega) (fun e => by have := hlt _ e.symm; omega)).trans ((Below.heap_alloc _ _ _ (by omega)).trans (hB4.block _ (by omega)))).trans hout
    rw [heap_setCell_same h5]
    rfl
  · rw [List.take_succ_eq_append_getElem hk, hks]
    refine RowVals.snoc hsw (hI4.keep (fun b hb => ?_) (fun b hb => ?_)) (hrv.keep (fun b hb => ?_) (fun b hb => ?_))
    · rcases hb with hb | hb
      · exact hbk b (by omega) (hlow b hb) (by omega)
      · exact hbk b hb.2 (fun e => by have := hlt _ e; omega) (by omega)
    · rcases hb with hb | hb
      · exact .inl hb
      · exact .inr ⟨by omega, by show b < _; simp; omega, fun e => hg5 b hb.2 (fun e => by have := hlt _ e; omega) (by simpa [Value.ownBlock] using e)⟩
    · rcases hb with hb | hb
      · exact (hbk b (by omega) (hlow b hb) (by omega)).trans (hB4.block b (by omega))
      · exact (hbk b (by have := hb.2.1; omega) hb.2.2 (by have := hb.1; omega)).trans (hB4.block b hb.2.1)
    · rcases hb with hb | hb
      · exact .inl hb
      · exact .inr ⟨hb.1, by show b < _; have := hb.2.1; simp; omega, fun e => hg5 b (by have := hb.2.1; omega) hb.2.2 (by simpa [Value.ownBlock] using e)⟩
  · exact (hB.trans (((hB4.mono (by omega)).alloc (by omega) ob).grown hgrow5 (by simp; omega) (fun k hk => by have := hlt k hk; omega))).setCell (p := ⟨w.heap.size + 3, 1, none⟩) (by simp) _

set_option maxRecDepth 100000 in
set_option maxHeartbeats 4000000 in
theorem refPut0_any (u : T) (hu : (Lit.int .i64 u.head).wf = true) : ∀ (p : List Int) (t s : T) (n₀ : Nat) (a : Option Addr) (c : Nat) (ap : Option Addr) (cp : Nat) (au : Option Addr) (cu : Nat) (w : World), n₀ ≤ w.heap.size → t.size ≤ 1000000 → (Lit.int .i64 t.head).wf = true → IsArgs n₀ w t.args a c → IsIs n₀ w p ap cp → IsArgs n₀ w u.args au cu → t.at p = some s →
    Calls Try.prog 40 #[tm t.head a t.args.length c, .slice ap p.length cp, tm u.head au u.args.length cu] w (RPutPost (t.put u p) n₀ w) := by
  have HU := Lib.hid hu
  clear hu
  intro p
  induction p with
  | nil =>
    intro t s n₀ a c ap cp au cu w hn hbig hwf hA hP hAu hat
    have hb2 : Below w.heap.size w (((w.alloc (tmCells t.head a t.args.length c)).alloc (tmCells u.head au u.args.length cu)).alloc (tmCells u.head au u.args.length cu)) := (((Below.refl _ w).alloc (Nat.le_refl _) _).alloc (by simp) _).alloc (by simp; omega) _
    have HA := Lib.hid (hAu.below (hb2.mono hn))
    have HB := Lib.hid hb2
    clear hA hAu hb2
    go_enter Try.func40, Try.ntmps40
    go_wp2
    exact bodyPost_ret (v := tm u.head au u.args.length cu) (by simp [results, Try.results40, go_sem]) rfl ⟨au, cu, rfl, HU.out, (isArgsp_lt.2 HA.out).mono (fun b hb => .inl hb), HB.out⟩
  | cons z p ih =>
    intro t s n₀ a c ap cp au cu w hn hbig hwf hA hP hAu hat
    have IH := Lib.hid ih
    have HWF := Lib.hid hwf
    have hpl : (z :: p).length ≤ cp ∧ cp ≤ maxLen := ⟨hP.1, hP.2.1⟩
    unfold maxLen at hpl
    obtain ⟨hp1, hp2⟩ := hpl
    obtain ⟨bp, op, z', rfl, hbp, hz, hcz⟩ := hP.elem (k := 0) (by simp)
    simp at hz
    subst hz
    simp only [Nat.add_zero] at hcz
    have HT := Lib.hid hP.tail
    have hsz := T.size_eq t
    have hlz := T.sizes_ge_length t.args
    have hlen : t.args.length ≤ 1000000 := by omega
    have hlc : t.args.length ≤ c ∧ c ≤ maxLen := ⟨hA.1, hA.2.1⟩
    unfold maxLen at hlc
    obtain ⟨hl1, hl2⟩ := hlc
    obtain ⟨n, rfl, hnl, x, hx, hatx⟩ : ∃ n : Nat, z = (n : Int) ∧ n < t.args.length ∧ ∃ x, t.args[n]? = some x ∧ x.at p = some s := by
      simp only [T.at] at hat
      split at hat
      · cases hat
      · rename_i hc
        have h0 : z.toNat < t.args.length := by omega
        rw [List.getElem?_eq_getElem h0] at hat
        exact ⟨z.toNat, by omega, h0, _, List.getElem?_eq_getElem h0, hat⟩
    have HX := Lib.hid hx
    have HAX := Lib.hid hatx
    have HA := Lib.hid hA
    have HAU := Lib.hid hAu
    have HCZ := Lib.hid hcz
    have HSZ := Lib.hid hsz
    have hput : t.put u ((n : Int) :: p) = .node t.head (t.args.modify n (fun s => s.put u p)) := rfl
    obtain ⟨ts', hts⟩ : ∃ ts', t.args.modify n (fun s => s.put u p) = ts' := ⟨_, rfl⟩
    rw [hts] at hput
    have hll : ts'.length = t.args.length := by rw [← hts]; simp
    have HTS := Lib.hid (show ∀ k, ts'[k]? = if n = k then (t.args[k]?).map (fun s => s.put u p) else t.args[k]? from fun k => by rw [← hts, List.getElem?_modify]; split <;> simp)
    rw [hput]
    clear ih hP hA hAu hat hx hatx hput hts hwf hcz hsz hlz
    obtain ⟨i0, hi, hz0, hz1, hz2⟩ := info_parts infoTerm
    go_enter Try.func40, Try.ntmps40
    go_wp2
    obtain ⟨w3, hw3⟩ : ∃ w3, (((w.alloc (tmCells t.head a t.args.length c)).alloc (tmCells u.head au u.args.length cu)).alloc (tmCells 0 none 0 0)).alloc (tmCells t.head none 0 0) = w3 := ⟨_, rfl⟩
    have hB3 : Below w.heap.size w w3 := by rw [← hw3]; exact ((((Below.refl _ w).alloc (Nat.le_refl _) _).alloc (by simp) _).alloc (by simp; omega) _).alloc (by simp; omega) _
    have hs3 : w3.heap.size = w.heap.size + 4 := by rw [← hw3]; simp
    have hbx : w3.cell? ⟨w.heap.size, 1, none⟩ = some (.slice a t.args.length c) := by rw [← hw3]; simp [go_sem]
    have hu0 : w3.cell? ⟨w.heap.size + 1, 0, none⟩ = some (.int .i64 u.head) := by rw [← hw3]; simp [go_sem]
    have hu1 : w3.cell? ⟨w.heap.size + 1, 1, none⟩ = some (.slice au u.args.length cu) := by rw [← hw3]; simp [go_sem]
    have hout : w3.heap[w.heap.size + 3]? = some (.cells #[.int .i64 t.head, .slice none 0 0] 24 (0, 0)) := by
      rw [← hw3]
      have h := heap_alloc_new (((w.alloc (tmCells t.head a t.args.length c)).alloc (tmCells u.head au u.args.length cu)).alloc (tmCells 0 none 0 0)) (tmCells t.head none 0 0)
      simpa using h
    have hres : ∀ W, Below (w.heap.size + 3) w3 W → ∃ q0 q1, W.cell? ⟨w.heap.size + 2, 0, none⟩ = some q0 ∧ W.cell? ⟨w.heap.size + 2, 1, none⟩ = some q1 ∧ W.frozen? ⟨w.heap.size + 2, 0, none⟩ = false ∧ W.frozen? ⟨w.heap.size + 2, 1, none⟩ = false := fun W hW =>
      ⟨.int .i64 0, .slice none 0 0, (hW.cell (p := ⟨w.heap.size + 2, 0, none⟩) (by simp)).trans (by rw [← hw3]; simp [go_sem]), (hW.cell (p := ⟨w.heap.size + 2, 1, none⟩) (by simp)).trans (by rw [← hw3]; simp [go_sem]), (hW.frozen (p := ⟨w.heap.size + 2, 0, none⟩) (by simp)).trans (by rw [← hw3]; simp [go_sem]), (hW.frozen (p := ⟨w.heap.size + 2, 1, none⟩) (by simp)).trans (by rw [← hw3]; simp [go_sem])⟩
    rw [hw3]
    have h10 : ((p.length : Int) + 1 == 0) = false := by simp; omega
    rw [h10]
    clear h10
    have HRES := Lib.hid hres
    have HBX := Lib.hid hbx
    have HU0 := Lib.hid hu0
    have HU1 := Lib.hid hu1
    have HS3 := Lib.hid hs3
    have HB3 := Lib.hid hB3
    have HOUT := Lib.hid hout
    clear hres hw3 hbx hu0 hu1 hs3 hB3 hout
    go_loopw [8] (fun i wr => RPutI t.head ts' n₀ w w3 i wr) (fun i _ => t.args.length - (intOf i).toNat)
    case atStart => exact ⟨0, _, [], Nat.zero_le _, rfl, HOUT.out, World.ownsRow_nil _ _ _ _, trivial, Below.refl _ _⟩
    case round =>
      obtain ⟨k, v, xs, hk, rfl, hout, hown, hrv, hB⟩ := hrel
      rw [hll] at hk
      have hz : w.heap.size + 4 ≤ wr.heap.size := by have := hB.size; have := HS3.out; omega
      have hw : Below w.heap.size w wr := HB3.out.trans (hB.mono (by omega))
      have hbx := (hB.cell (p := ⟨w.heap.size, 1, none⟩) (by simp)).trans HBX.out
      have hu0 := (hB.cell (p := ⟨w.heap.size + 1, 0, none⟩) (by simp)).trans HU0.out
      have hu1 := (hB.cell (p := ⟨w.heap.size + 1, 1, none⟩) (by simp)).trans HU1.out
      have hcz := (hw.cell (p := ⟨bp, op, none⟩) (by simp; omega)).trans HCZ.out
      have ho1 : wr.cell? ⟨w.heap.size + 3, 1, none⟩ = some v := by simp [World.cell?, hout]
      have hf1 : wr.frozen? ⟨w.heap.size + 3, 1, none⟩ = false := by simp [World.frozen?, hout]
      have HO := Lib.hid hown
      have HR := Lib.hid hrv
      have HW := Lib.hid hw
      have HBL := Lib.hid hB
      have HOUT' := Lib.hid hout
      clear hown hrv hw hB hout HOUT
      by_cases hlt : k < t.args.length
      · obtain ⟨b, o, s', a', c', rfl, hbn, hs, hswf, hc1, hc2, hA'⟩ := (HA.out.below (HW.out.mono hn)).elem (i := k) hlt
        have hbw : b < wr.heap.size := by omega
        have hbpw : bp < wr.heap.size := by omega
        have HSS := Lib.hid hs
        have HA' := Lib.hid hA'
        have HSW := Lib.hid hswf
        have hk0 : (0 : Int) ≤ (k : Int) := Int.natCast_nonneg _
        have hk1 : (k : Int) < (t.args.length : Int) := by omega
        have hoB : w.heap.size + 3 < wr.heap.size := by omega
        have huB : w.heap.size + 1 < wr.heap.size := by omega
        have hxB : w.heap.size < wr.heap.size := by omega
        have hi0 : (0 : Int) < (p.length : Int) + 1 := by omega
        have hi1 : 0 < p.length + 1 := by omega
        clear hs hA' hswf
        have hk2 : k + 1 ≤ maxLen := by unfold maxLen; omega
        by_cases hkn : k = n
        · subst hkn
          have hsx : s' = x := by have := HSS.out; rw [HX.out] at this; exact (Option.some.inj this).symm
          subst hsx
          have hss : s'.size ≤ 1000000 := by have := T.size_lt_of_mem HX.out; have := HSZ.out; omega
          obtain ⟨y, hy⟩ : ∃ y, s'.put u p = y := ⟨_, rfl⟩
          have hty : ts'[k]? = some y := by rw [HTS.out k, if_pos rfl, HX.out, Option.map_some, hy]
          have HTY := Lib.hid hty
          have hs1 : (1 : Int) ≤ (p.length : Int) + 1 := by omega
          have hs2 : (p.length : Int) + 1 ≤ (cp : Int) := by simp at hp1; omega
          by_cases hcp : cp = 1
          · subst hcp
            have hT := HT.out
            simp only [if_true, Nat.sub_self] at hT
            have cc : Calls Try.prog 40 #[tm s'.head a' s'.args.length c', .slice (some ⟨bp, op, none⟩) p.length (0), tm u.head au u.args.length cu] wr.drew (RPutPost y n₀ wr.drew) := hy ▸ IH.out s' s n₀ a' c' (some ⟨bp, op, none⟩) (0) au cu wr.drew (by show n₀ ≤ wr.heap.size; omega) hss HSW.out (HA'.out.below (Below.refl _ _).drew) ((hT.below (HW.out.mono hn)).below (Below.refl _ _).drew) ((HAU.out.below (HW.out.mono hn)).below (Below.refl _ _).drew) HAX.out
            have CC := Lib.hid cc
            clear cc hT hty hy
            go_wp2
            go_region_law (first
              | (refine step_append_lies _ (by rfl) _ _ _ (by rfl) (w.heap.size + 4) 24 i0 _ 2 32 Try.underlying22 hi hz0 hz1 hz2 rfl (by omega) v k xs (by rfl) ((ownsRow_later HO.out hB4w).alloc _)
                  ⟨w4.heap.size, 0, none⟩ 1 1 [.int .i64 y.head, .slice a2 y.args.length c2] (by rfl) (by rfl) (World.news_of_block (cs := #[.int .i64 y.head, .slice a2 y.args.length c2]) (t := 24) (fr := (0, 0)) (heap_alloc_new w4 _)) (by simp [Value.oneCell'])
                  (by omega) hk2 (by omega) (by simp; omega) (w4.heap.size + 1) (by simp) ?_; intro g5 cap5 w5 hown5 hgrow5 hat5 hlt5; have hB5x : Below (w.heap.size + 4) wr w5 := ((hB4w.mono hz).alloc hz4 _).grown hgrow5 (by simp; omega) (fun k hk => (HO.out.lt k hk).1); have ho5 := (hB5x.cell (p := ⟨w.heap.size + 3, 1, none⟩) (by simp)).trans ho1; have hf5 := (hB5x.frozen (p := ⟨w.heap.size + 3, 1, none⟩) (by simp)).trans hf1)
              | (go_simp; go_at_call 40; refine CC.out.mono ?_; rintro e w4 ⟨a2, c2, rfl, hwf4, hI4, hb4⟩; have hB4w : Below wr.heap.size wr w4 := ⟨hb4.os, hb4.tape, hb4.output, hb4.size, hb4.block⟩; have hz4 : w.heap.size + 4 ≤ w4.heap.size := Nat.le_trans hz hB4w.size; have ho4 := (hB4w.cell (p := ⟨w.heap.size + 3, 1, none⟩) (by simp; omega)).trans ho1; have ho4' : ∀ ob, (w4.alloc ob).cell? ⟨w.heap.size + 3, 1, none⟩ = some v := fun ob => (World.cell?_of_block (a := ⟨w.heap.size + 3, 1, none⟩) (Below.heap_alloc w4 ob _ (by simp; omega))).trans ho4))
            all_goals
              go_wp2
              go_roundw
              case rel => exact rput_step hn HTY.out hwf4 HOUT'.out HO.out HR.out HBL.out hz hI4 hB4w hown5 hgrow5 hat5
              case measure => simp [intOf]; omega
          · have hT := HT.out
            rw [if_neg hcp] at hT
            have hcp1 : ((cp : Int) == 1) = false := by simp; omega
            have hcp2 : (cp == 1) = false := by simpa using hcp
            have cc : Calls Try.prog 40 #[tm s'.head a' s'.args.length c', .slice (some ⟨bp, op + 1, none⟩) p.length (cp - 1), tm u.head au u.args.length cu] wr.drew (RPutPost y n₀ wr.drew) := hy ▸ IH.out s' s n₀ a' c' (some ⟨bp, op + 1, none⟩) (cp - 1) au cu wr.drew (by show n₀ ≤ wr.heap.size; omega) hss HSW.out (HA'.out.below (Below.refl _ _).drew) ((hT.below (HW.out.mono hn)).below (Below.refl _ _).drew) ((HAU.out.below (HW.out.mono hn)).below (Below.refl _ _).drew) HAX.out
            have CC := Lib.hid cc
            clear cc hT hty hy
            go_wp2
            go_region_law (first
              | (refine step_append_lies _ (by rfl) _ _ _ (by rfl) (w.heap.size + 4) 24 i0 _ 2 32 Try.underlying22 hi hz0 hz1 hz2 rfl (by omega) v k xs (by rfl) ((ownsRow_later HO.out hB4w).alloc _)
                  ⟨w4.heap.size, 0, none⟩ 1 1 [.int .i64 y.head, .slice a2 y.args.length c2] (by rfl) (by rfl) (World.news_of_block (cs := #[.int .i64 y.head, .slice a2 y.args.length c2]) (t := 24) (fr := (0, 0)) (heap_alloc_new w4 _)) (by simp [Value.oneCell'])
                  (by omega) hk2 (by omega) (by simp; omega) (w4.heap.size + 1) (by simp) ?_; intro g5 cap5 w5 hown5 hgrow5 hat5 hlt5; have hB5x : Below (w.heap.size + 4) wr w5 := ((hB4w.mono hz).alloc hz4 _).grown hgrow5 (by simp; omega) (fun k hk => (HO.out.lt k hk).1); have ho5 := (hB5x.cell (p := ⟨w.heap.size + 3, 1, none⟩) (by simp)).trans ho1; have hf5 := (hB5x.frozen (p := ⟨w.heap.size + 3, 1, none⟩) (by simp)).trans hf1)
              | (go_simp; go_at_call 40; refine CC.out.mono ?_; rintro e w4 ⟨a2, c2, rfl, hwf4, hI4, hb4⟩; have hB4w : Below wr.heap.size wr w4 := ⟨hb4.os, hb4.tape, hb4.output, hb4.size, hb4.block⟩; have hz4 : w.heap.size + 4 ≤ w4.heap.size := Nat.le_trans hz hB4w.size; have ho4 := (hB4w.cell (p := ⟨w.heap.size + 3, 1, none⟩) (by simp; omega)).trans ho1; have ho4' : ∀ ob, (w4.alloc ob).cell? ⟨w.heap.size + 3, 1, none⟩ = some v := fun ob => (World.cell?_of_block (a := ⟨w.heap.size + 3, 1, none⟩) (Below.heap_alloc w4 ob _ (by simp; omega))).trans ho4))
            all_goals
              go_wp2
              go_roundw
              case rel => exact rput_step hn HTY.out hwf4 HOUT'.out HO.out HR.out HBL.out hz hI4 hB4w hown5 hgrow5 hat5
              case measure => simp [intOf]; omega
        · have hts : ts'[k]? = some s' := by rw [HTS.out k, if_neg (fun e => hkn e.symm)]; exact HSS.out
          have HTY := Lib.hid hts
          have hne1 : ((k : Int) == (n : Int)) = false := by simp; omega
          have hne2 : (k == n) = false := by simp; omega
          clear hts
          go_wp2
          have hB4w : Below wr.heap.size wr wr.drew := (Below.refl _ _).drew
          have HI4 := Lib.hid (show IsArgsp (fun b => b < n₀ ∨ wr.heap.size ≤ b ∧ b < wr.drew.heap.size) wr.drew s'.args a' c' from (isArgsp_lt.2 (HA'.out.below (Below.refl _ _).drew)).mono (fun b hb => .inl hb))
          have hz4 : w.heap.size + 4 ≤ wr.drew.heap.size := hz
          go_region_law (first
              | (refine step_append_lies _ (by rfl) _ _ _ (by rfl) (w.heap.size + 4) 24 i0 _ 2 32 Try.underlying22 hi hz0 hz1 hz2 rfl (by omega) v k xs (by rfl) ((ownsRow_later HO.out hB4w).alloc _)
                  ⟨wr.drew.heap.size, 0, none⟩ 1 1 [.int .i64 s'.head, .slice a' s'.args.length c'] (by rfl) (by rfl) (World.news_of_block (cs := #[.int .i64 s'.head, .slice a' s'.args.length c']) (t := 24) (fr := (0, 0)) (heap_alloc_new wr.drew _)) (by simp [Value.oneCell'])
                  (by omega) hk2 (by omega) (by simp; omega) (wr.drew.heap.size + 1) (by simp) ?_; intro g5 cap5 w5 hown5 hgrow5 hat5 hlt5; have hB5x : Below (w.heap.size + 4) wr w5 := ((hB4w.mono hz).alloc hz4 _).grown hgrow5 (by simp; omega) (fun k hk => (HO.out.lt k hk).1); have ho5 := (hB5x.cell (p := ⟨w.heap.size + 3, 1, none⟩) (by simp)).trans ho1; have hf5 := (hB5x.frozen (p := ⟨w.heap.size + 3, 1, none⟩) (by simp)).trans hf1))
          all_goals
            go_wp2
            go_roundw
            case rel => exact rput_step hn HTY.out HSW.out HOUT'.out HO.out HR.out HBL.out hz HI4.out hB4w hown5 hgrow5 hat5
            case measure => simp [intOf]; omega
      · obtain rfl : k = t.args.length := by omega
        have hr := HR.out
        rw [← hll, List.take_length] at hr
        have ho := HO.out
        rw [← hll] at ho
        obtain ⟨a2, c2, rfl, hI⟩ := argsp_of_owns (ok' := fun b => b ≠ w.heap.size + 2 ∧ (b < n₀ ∨ w.heap.size ≤ b ∧ b < wr.heap.size)) ho hr (fun b hb => by
          rcases hb with hb | hb
          · exact ⟨by omega, .inl hb⟩
          · exact ⟨by have := hb.1; omega, .inr ⟨by have := hb.1; omega, hb.2.1⟩⟩) (fun g hg => by have := ho.lt g hg; exact ⟨by omega, .inr ⟨by omega, by omega⟩⟩)
        have hc0 : wr.cell? ⟨w.heap.size + 3, 0, none⟩ = some (.int .i64 t.head) := by simp [World.cell?, HOUT'.out]
        have hr0 : ∃ q0 q1, wr.cell? ⟨w.heap.size + 2, 0, none⟩ = some q0 ∧ wr.cell? ⟨w.heap.size + 2, 1, none⟩ = some q1 ∧ wr.frozen? ⟨w.heap.size + 2, 0, none⟩ = false ∧ wr.frozen? ⟨w.heap.size + 2, 1, none⟩ = false := HRES.out wr HBL.out
        obtain ⟨q0, q1, r1, r2, r3, r4⟩ := hr0
        have HI := Lib.hid hI
        clear hI hr ho
        go_wp2
        refine bodyPost_ret (v := tm t.head a2 ts'.length c2) (by simp [results, Try.results40, go_sem, r1, r2, hll]) rfl ⟨a2, c2, rfl, HWF.out, HI.out.keep (fun b hb => (Below.heap_setCell _ _ _ _ (by simpa using hb.1)).trans (Below.heap_setCell _ _ _ _ (by simpa using hb.1))) (fun b hb => by simpa using hb.2), ?_⟩
        exact (HW.out.setCell (p := ⟨w.heap.size + 2, 0, none⟩) (by simp) _).setCell (p := ⟨w.heap.size + 2, 1, none⟩) (by simp) _

end Go.Proofs.Ytdigccbffphilaa
