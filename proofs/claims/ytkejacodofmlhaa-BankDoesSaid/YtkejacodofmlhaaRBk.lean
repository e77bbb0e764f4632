/- The reference's bank in memory; contract of its Find. -/
import Derived.Test.YtkejacodofmlhaaBkE
import Derived.Test.YtkejacodofmlhaaBkP
import Derived.Test.YtkejacodofmlhaaRef
import Derived.Test.YtkejacodofmlhaaLat
import Derived.Test.YtkejacodofmlhaaRCopy
import Derived.StillTailTactics
namespace Go.Proofs.Ytkejacodofmlhaa
set_option linter.unusedVariables false
set_option linter.unusedSimpArgs false
open Go.RowKit Go.Maps

def okR (G : Nat → Prop) (W : World) (rb : Nat) (v : Value) (b : Nat) : Prop := G b ∧ b < W.heap.size ∧ b ≠ rb ∧ v.ownBlock ≠ some b
/-- Block rb is a reference's bank that keeps the terms L; its own blocks are in G. -/
def RBk (B : Nat) (G : Nat → Prop) (W : World) (rb : Nat) (L : List T) : Prop :=
  ∃ v xs, W.heap[rb]? = some (.cells #[v] 41 (0, 0)) ∧ W.ownsRow B 24 2 v L.length xs ∧ RowVals (okR G W rb v) W L xs ∧ G rb ∧ (∀ g, v.ownBlock = some g → G g) ∧ B ≤ rb
theorem RBk.lt {B : Nat} {G : Nat → Prop} {W : World} {rb : Nat} {L : List T} (h : RBk B G W rb L) : rb < W.heap.size := by
  obtain ⟨v, xs, h1, _⟩ := h
  exact (Array.getElem?_eq_some_iff.1 h1).1
theorem RBk.kept {B : Nat} {G : Nat → Prop} {W W' : World} {rb : Nat} {L : List T} (h : RBk B G W rb L) (hk : ∀ i, G i → i < W.heap.size → W'.heap[i]? = W.heap[i]?) (hz : W.heap.size ≤ W'.heap.size) : RBk B G W' rb L := by
  have hl := h.lt
  obtain ⟨v, xs, h1, h2, h3, h4, h5, h6⟩ := h
  exact ⟨v, xs, (hk rb h4 hl).trans h1, Mm.ownsRow_kept h2 (fun b hb => hk b (h5 b hb) (Mm.rowBlock h2 hb).2.1), h3.keep (fun b hb => hk b hb.1 hb.2.1) (fun b hb => ⟨hb.1, Nat.lt_of_lt_of_le hb.2.1 hz, hb.2.2⟩), h4, h5, h6⟩
theorem RBk.later {B : Nat} {G : Nat → Prop} {W W' : World} {rb : Nat} {L : List T} (h : RBk B G W rb L) (hb : Below W.heap.size W W') : RBk B G W' rb L := h.kept (fun i _ hi => hb.block i hi) hb.size
theorem RBk.mono {B : Nat} {G G' : Nat → Prop} {W : World} {rb : Nat} {L : List T} (h : RBk B G W rb L) (hG : ∀ i, G i → G' i) : RBk B G' W rb L := by
  obtain ⟨v, xs, h1, h2, h3, h4, h5, h6⟩ := h
  exact ⟨v, xs, h1, h2, h3.keep (fun _ _ => rfl) (fun b hb => ⟨hG b hb.1, hb.2⟩), hG rb h4, fun g hg => hG g (h5 g hg), h6⟩
theorem RBk.elem {B : Nat} {G : Nat → Prop} {W : World} {rb : Nat} {L : List T} (h : RBk B G W rb L) {k : Nat} (hk : k < L.length) :
    ∃ g cap u a c, W.cell? ⟨rb, 0, none⟩ = some (.slice (some ⟨g, 0, none⟩) L.length cap) ∧ g < W.heap.size ∧ L.length ≤ cap ∧ cap ≤ maxLen ∧ L[k]? = some u ∧ (Lit.int .i64 u.head).wf = true ∧ W.cell? ⟨g, k * 2, none⟩ = some (.int .i64 u.head) ∧ W.cell? ⟨g, k * 2 + 1, none⟩ = some (.slice a u.args.length c) ∧ IsArgsp (fun b => G b ∧ b < W.heap.size) W u.args a c := by
  obtain ⟨v, xs, h1, h2, h3, h4, h5, h6⟩ := h
  have hcells := fun g hg => h2.cells (g := g) hg
  rcases h2.2 with ⟨_, h0⟩ | ⟨g, cap, cur, rfl, hg, hh, hn, hc, hs, ht⟩
  · omega
  · have hrow : IsRowp (okR G W rb (.slice (some ⟨g, 0, none⟩) L.length cap)) W L g 0 := h3.isRowp (fun j u hj => by
      have := hcells g rfl j u hj
      rw [show ((⟨g, 0, none⟩ : Addr).add j) = ⟨g, 0 + j, none⟩ from by unfold Addr.add; split <;> simp_all] at this
      exact this)
    obtain ⟨p0, p1, a, c, p2, p3⟩ := isTp_iff.1 (hrow.at (List.getElem?_eq_getElem hk))
    exact ⟨g, cap, _, a, c, by simp [World.cell?, h1], (Array.getElem?_eq_some_iff.1 hh).1, hn, hc, List.getElem?_eq_getElem hk, p0, by simpa using p1, by simpa using p2, p3.mono (fun b hb => ⟨hb.1, hb.2.1⟩)⟩
theorem RBk.len {B : Nat} {G : Nat → Prop} {W : World} {rb : Nat} {L : List T} (h : RBk B G W rb L) : ∃ a c, W.cell? ⟨rb, 0, none⟩ = some (.slice a L.length c) := by
  obtain ⟨v, xs, h1, h2, _⟩ := h
  rcases h2.2 with ⟨rfl, h0⟩ | ⟨g, cap, cur, rfl, _⟩
  · exact ⟨none, 0, by simp [World.cell?, h1, h0]⟩
  · exact ⟨some ⟨g, 0, none⟩, cap, by simp [World.cell?, h1]⟩

theorem fi_first {L : List T} {t : T} {k : Nat} (hn : t ∉ L.take k) (hk : L[k]? = some t) : fi L t = some k := by
  obtain ⟨hl, he⟩ := List.getElem?_eq_some_iff.1 hk
  have hm : t ∈ L := List.mem_of_getElem? hk
  have hlt := List.idxOf_lt_length_iff.2 hm
  unfold fi
  rw [if_pos hm]
  have h2 : L = L.take k ++ t :: L.drop (k + 1) := by
    rw [← he, ← List.drop_eq_getElem_cons hl, List.take_append_drop]
  congr 1
  rw [h2, List.idxOf_append, if_neg hn, List.idxOf_cons_self]
  simp
  omega
theorem fi_none {L : List T} {t : T} (hn : t ∉ L) : fi L t = none := by unfold fi; rw [if_neg hn]

def RFI (L : List T) (t : T) (w1 : World) (i : Value) (wr : World) : Prop := ∃ k : Nat, k ≤ L.length ∧ i = .int .i64 k ∧ t ∉ L.take k ∧ Below w1.heap.size w1 wr

set_option maxRecDepth 100000 in
set_option maxHeartbeats 2000000 in
theorem refFind_any (B : Nat) (G : Nat → Prop) (rb : Nat) (L : List T) (hL : ∀ u ∈ L, u.size ≤ 1000000000000) (t : T) (ht : t.size ≤ 1000000000000) (n₀ : Nat) (a : Option Addr) (c : Nat) (w : World) (hn : n₀ ≤ w.heap.size) (hG : RBk B G w rb L) (hA : IsArgs n₀ w t.args a c) :
    Calls Try.prog 18 #[.pointer (some ⟨rb, 0, none⟩), tm t.head a t.args.length c] w (SrPost (fi L t) w) := by
  obtain ⟨w1, hw1⟩ : ∃ w1, w.alloc (tmCells t.head a t.args.length c) = w1 := ⟨_, rfl⟩
  have hb1 : Below w.heap.size w w1 := by rw [← hw1]; exact (Below.refl _ _).alloc (Nat.le_refl _) _
  have hz1 : w1.heap.size = w.heap.size + 1 := by rw [← hw1]; simp
  have q0 : w1.cell? ⟨w.heap.size, 0, none⟩ = some (.int .i64 t.head) := by rw [← hw1]; simp [go_sem]
  have q1 : w1.cell? ⟨w.heap.size, 1, none⟩ = some (.slice a t.args.length c) := by rw [← hw1]; simp [go_sem]
  have HB1 := Lib.hid hb1
  have HG := Lib.hid hG
  have HA := Lib.hid hA
  have HL := Lib.hid hL
  have KB := Lib.hid (show ∀ W, Below w1.heap.size w1 W → W.cell? ⟨w.heap.size, 0, none⟩ = some (.int .i64 t.head) ∧ W.cell? ⟨w.heap.size, 1, none⟩ = some (.slice a t.args.length c) ∧ RBk B G W rb L ∧ IsArgs n₀ W t.args a c ∧ w1.heap.size ≤ W.heap.size from fun W hW =>
    ⟨Mm.cell_via hW (by simp; omega) q0, Mm.cell_via hW (by simp; omega) q1, hG.later (hb1.trans (hW.mono hb1.size)), hA.below ((hb1.trans (hW.mono hb1.size)).mono hn), hW.size⟩)
  have hrb := hG.lt
  clear hb1 hG hA q0 q1
  subst hw1
  go_enter Try.func18, Try.ntmps18
  go_wp2
  generalize w.alloc (tmCells t.head a t.args.length c) = w1 at *
  go_loopw [6] (fun i wr => RFI L t w1 i wr) (fun i _ => L.length - (intOf i).toNat)
  case atStart => exact ⟨0, Nat.zero_le _, rfl, by simp, Below.refl _ _⟩
  case round =>
    obtain ⟨k, hk, rfl, hno, hB⟩ := hrel
    have HNO := Lib.hid hno
    have HB := Lib.hid hB
    have hk0 : (0 : Int) ≤ (k : Int) := Int.natCast_nonneg _
    have hzb := hB.size
    obtain ⟨p0, p1, hR, hAr, _⟩ := KB.out wr hB
    clear hno hB
    by_cases hlt : k < L.length
    · obtain ⟨g, cap, u, au, cu, r0, hg, hc1, hc2, hu, huw, d0, d1, hAu⟩ := hR.elem hlt
      have hk1 : (k : Int) < (L.length : Int) := by omega
      unfold maxLen at hc2
      have HU := Lib.hid hu
      have HL2 := Lib.hid (show t ∉ L.take (k + 1) ∨ u = t from by
        by_cases e : u = t
        · exact .inr e
        · refine .inl (fun hm => ?_)
          obtain ⟨hkl, hke⟩ := List.getElem?_eq_some_iff.1 hu
          rw [List.take_succ_eq_append_getElem hkl, hke, List.mem_append] at hm
          rcases hm with hm | hm
          · exact HNO.out hm
          · exact e (List.mem_singleton.1 hm).symm)
      have cs := refSame_any u t (HL.out u (List.mem_of_getElem? hu)) ht wr.heap.size au cu a c wr.drew (Nat.le_refl _) ((hAu.toArgs (fun b hb => hb.2)).below (Below.refl _ _).drew) ((hAr.mono (by omega)).below (Below.refl _ _).drew)
      have CS := Lib.hid cs
      clear hu huw hAu hAr hR cs
      have hrbr : rb < wr.heap.size := by omega
      go_wp2
      go_still_tail 8, (by kernel_rfl)
      change wpList _ _ _ _ _ wr.drew
      go_wp2_with fail
      refine CS.out.mono ?_
      rintro e w3 ⟨rfl, hb3⟩
      have HB3 := Lib.hid (HB.out.drew.trans (hb3.mono (show w1.heap.size ≤ wr.drew.heap.size from by show w1.heap.size ≤ wr.heap.size; omega)))
      clear hb3 CS
      by_cases hut : T.cmp u t = 0
      · rw [decide_eq_true hut]
        have HF := Lib.hid (fi_first HNO.out (by rw [HU.out, T.cmp_zero.1 hut]))
        clear hut
        go_wp2
        go_ret2
        unfold SrPost
        rw [HF.out]
        exact ⟨rfl, HB1.out.trans (HB3.out.mono HB1.out.size)⟩
      · rw [decide_eq_false hut]
        have HF := Lib.hid (HL2.out.resolve_right (fun e => hut (T.cmp_zero.2 e)))
        clear hut
        go_wp2
        go_roundw
        case rel => exact ⟨k + 1, by omega, by go_num, HF.out, HB3.out⟩
        case measure => simp [intOf]; omega
    · obtain rfl : k = L.length := by omega
      obtain ⟨aL, cL, r0⟩ := hR.len
      have hrbr : rb < wr.heap.size := by omega
      have hfn := HNO.out
      rw [List.take_length] at hfn
      have HF := Lib.hid (fi_none hfn)
      clear hR hAr hfn
      go_wp2
      go_ret2
      unfold SrPost
      rw [HF.out]
      exact ⟨rfl, HB1.out.trans (HB.out.mono HB1.out.size)⟩

end Go.Proofs.Ytkejacodofmlhaa
