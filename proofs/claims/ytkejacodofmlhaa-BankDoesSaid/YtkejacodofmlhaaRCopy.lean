/- Contract of the reference's Copy. -/
import Derived.Test.YtkejacodofmlhaaRCp0
namespace Go.Proofs.Ytkejacodofmlhaa
set_option linter.unusedVariables false
set_option linter.unusedSimpArgs false
open Go.RowKit

set_option maxRecDepth 100000 in
set_option maxHeartbeats 4000000 in
theorem refCopy_any : ∀ (N : Nat) (t : T), t.size ≤ N → t.size ≤ 1000000000000 → ∀ (n₀ : Nat) (a : Option Addr) (c : Nat) (w : World), n₀ ≤ w.heap.size → (Lit.int .i64 t.head).wf = true → IsArgs n₀ w t.args a c →
    Calls Try.prog 60 #[tm t.head a t.args.length c] w (CopyPost t w) := by
  intro N
  induction N with
  | zero => intro t ht; have := T.size_pos t; omega
  | succ N ih =>
    intro t ht hbig n₀ a c w hn hwf hA
    have IH := Lib.hid ih
    have HWF := Lib.hid hwf
    have hsz := T.size_eq t
    have hlz := T.sizes_ge_length t.args
    have hlc : t.args.length ≤ c ∧ c ≤ maxLen := ⟨hA.1, hA.2.1⟩
    unfold maxLen at hlc
    obtain ⟨hl1, hl2⟩ := hlc
    have HS := Lib.hid hsz
    have hlen : t.args.length ≤ 1000000000000 := by omega
    have HA := Lib.hid hA
    clear ih hwf hA hsz hlz
    obtain ⟨i0, hi, hz0, hz1, hz2⟩ := info_parts infoTerm
    go_enter Try.func60, Try.ntmps60
    go_wp2
    obtain ⟨w3, hw3⟩ : ∃ w3, ((w.alloc (tmCells t.head a t.args.length c)).alloc (tmCells 0 none 0 0)).alloc (tmCells t.head none 0 0) = w3 := ⟨_, rfl⟩
    have hB3 : Below w.heap.size w w3 := by rw [← hw3]; exact (((Below.refl _ w).alloc (Nat.le_refl _) _).alloc (by simp) _).alloc (by simp; omega) _
    have hs3 : w3.heap.size = w.heap.size + 3 := by rw [← hw3]; simp
    have hbx : w3.cell? ⟨w.heap.size, 1, none⟩ = some (.slice a t.args.length c) := by rw [← hw3]; simp [go_sem]
    have hout : w3.heap[w.heap.size + 2]? = some (.cells #[.int .i64 t.head, .slice none 0 0] 24 (0, 0)) := by
      rw [← hw3]
      have h := heap_alloc_new ((w.alloc (tmCells t.head a t.args.length c)).alloc (tmCells 0 none 0 0)) (tmCells t.head none 0 0)
      simpa using h
    have hres : ∀ W, Below (w.heap.size + 2) w3 W → ∃ q0 q1, W.cell? ⟨w.heap.size + 1, 0, none⟩ = some q0 ∧ W.cell? ⟨w.heap.size + 1, 1, none⟩ = some q1 ∧ W.frozen? ⟨w.heap.size + 1, 0, none⟩ = false ∧ W.frozen? ⟨w.heap.size + 1, 1, none⟩ = false := fun W hW =>
      ⟨.int .i64 0, .slice none 0 0, (hW.cell (p := ⟨w.heap.size + 1, 0, none⟩) (by simp)).trans (by rw [← hw3]; simp [go_sem]), (hW.cell (p := ⟨w.heap.size + 1, 1, none⟩) (by simp)).trans (by rw [← hw3]; simp [go_sem]), (hW.frozen (p := ⟨w.heap.size + 1, 0, none⟩) (by simp)).trans (by rw [← hw3]; simp [go_sem]), (hW.frozen (p := ⟨w.heap.size + 1, 1, none⟩) (by simp)).trans (by rw [← hw3]; simp [go_sem])⟩
    rw [hw3]
    have HRES := Lib.hid hres
    clear hres
    have HBX := Lib.hid hbx
    have HS3 := Lib.hid hs3
    have HB3 := Lib.hid hB3
    have HOUT := Lib.hid hout
    clear hw3 hbx hs3 hB3 hout
    go_loopw [4] (fun i wr => CopyI t w w3 i wr) (fun i _ => t.args.length - (intOf i).toNat)
    case atStart => exact ⟨0, _, [], Nat.zero_le _, rfl, HOUT.out, World.ownsRow_nil _ _ _ _, trivial, Below.refl _ _⟩
    case round =>
      obtain ⟨k, v, xs, hk, rfl, hout, hown, hrv, hB⟩ := hrel
      have hz : w.heap.size + 3 ≤ wr.heap.size := by have := hB.size; have := HS3.out; omega
      have hw : Below w.heap.size w wr := HB3.out.trans (hB.mono (by omega))
      have hbx := (hB.cell (p := ⟨w.heap.size, 1, none⟩) (by simp)).trans HBX.out
      have ho1 : wr.cell? ⟨w.heap.size + 2, 1, none⟩ = some v := by simp [World.cell?, hout]
      have hf1 : wr.frozen? ⟨w.heap.size + 2, 1, none⟩ = false := by simp [World.frozen?, hout]
      have HO := Lib.hid hown
      have HR := Lib.hid hrv
      have HW := Lib.hid hw
      have HBL := Lib.hid hB
      have HOUT' := Lib.hid hout
      clear hown hrv hw hB hout HOUT
      by_cases hlt : k < t.args.length
      · obtain ⟨b, o, s, a', c', rfl, hbn, hs, hswf, hc1, hc2, hA'⟩ := (HA.out.below (HW.out.mono hn)).elem (i := k) hlt
        have hsN : s.size ≤ N := by have := T.size_lt_of_mem hs; have := HS.out; omega
        have hsb : s.size ≤ 1000000000000 := by have := T.size_lt_of_mem hs; have := HS.out; omega
        have hbw : b < wr.heap.size := by omega
        have HSS := Lib.hid hs
        have HA' := Lib.hid hA'
        have HSW := Lib.hid hswf
        have hk0 : (0 : Int) ≤ (k : Int) := Int.natCast_nonneg _
        have hk1 : (k : Int) < (t.args.length : Int) := by omega
        have hoB : w.heap.size + 2 < wr.heap.size := by omega
        have hxB : w.heap.size < wr.heap.size := by omega
        clear hs hA' hswf
        have hk2 : k + 1 ≤ maxLen := by unfold maxLen; omega
        have cc : Calls Try.prog 60 #[tm s.head a' s.args.length c'] wr.drew (CopyPost s wr.drew) := IH.out s hsN hsb n₀ a' c' wr.drew (by show n₀ ≤ wr.heap.size; omega) HSW.out (HA'.out.below (Below.refl _ _).drew)
        have CC := Lib.hid cc
        clear cc
        go_wp2
        go_region_law (first
            | (refine step_append_lies _ (by rfl) _ _ _ (by rfl) (w.heap.size + 3) 24 i0 _ 2 32 Try.underlying22 hi hz0 hz1 hz2 rfl (by omega) v k xs (by rfl) ((ownsRow_later HO.out hB4w).alloc _)
                ⟨w4.heap.size, 0, none⟩ 1 1 [.int .i64 s.head, .slice a2 s.args.length c2] (by rfl) (by rfl) (World.news_of_block (cs := #[.int .i64 s.head, .slice a2 s.args.length c2]) (t := 24) (fr := (0, 0)) (heap_alloc_new w4 _)) (by simp [Value.oneCell'])
                (by omega) hk2 (by omega) (by simp; omega) (w4.heap.size + 1) (by simp) ?_; intro g5 cap5 w5 hown5 hgrow5 hat5 hlt5; have hB5x : Below (w.heap.size + 3) wr w5 := ((hB4w.mono hz).alloc hz4 _).grown hgrow5 (by simp; omega) (fun k hk => (HO.out.lt k hk).1); have ho5 := (hB5x.cell (p := ⟨w.heap.size + 2, 1, none⟩) (by simp)).trans ho1; have hf5 := (hB5x.frozen (p := ⟨w.heap.size + 2, 1, none⟩) (by simp)).trans hf1)
            | (go_simp; go_at_call 60; refine CC.out.mono ?_; rintro e w4 ⟨a2, c2, rfl, hI4, hb4⟩; have hB4w : Below wr.heap.size wr w4 := ⟨hb4.os, hb4.tape, hb4.output, hb4.size, hb4.block⟩; have hz4 : w.heap.size + 3 ≤ w4.heap.size := Nat.le_trans hz hB4w.size; have ho4 := (hB4w.cell (p := ⟨w.heap.size + 2, 1, none⟩) (by simp; omega)).trans ho1; have ho4' : ∀ ob, (w4.alloc ob).cell? ⟨w.heap.size + 2, 1, none⟩ = some v := fun ob => (World.cell?_of_block (a := ⟨w.heap.size + 2, 1, none⟩) (Below.heap_alloc w4 ob _ (by simp; omega))).trans ho4))
        all_goals
          go_wp2
          go_roundw
          case rel => exact copy_step hlt HSS.out HSW.out HOUT'.out HO.out HR.out HBL.out hz hI4 hB4w hown5 hgrow5 hat5
          case measure => simp [intOf]; omega
      · obtain rfl : k = t.args.length := by omega
        have hr := HR.out
        rw [List.take_length] at hr
        obtain ⟨a2, c2, rfl, hI⟩ := argsp_of_owns (ok' := fun b => w.heap.size ≤ b ∧ b < wr.heap.size ∧ b ≠ w.heap.size + 1) HO.out hr (fun b hb => ⟨by have := hb.1; omega, hb.2.1, by have := hb.1; omega⟩) (fun g hg => by have := HO.out.lt g hg; omega)
        have hc0 : wr.cell? ⟨w.heap.size + 2, 0, none⟩ = some (.int .i64 t.head) := by simp [World.cell?, HOUT'.out]
        have hr0 : ∃ q0 q1, wr.cell? ⟨w.heap.size + 1, 0, none⟩ = some q0 ∧ wr.cell? ⟨w.heap.size + 1, 1, none⟩ = some q1 ∧ wr.frozen? ⟨w.heap.size + 1, 0, none⟩ = false ∧ wr.frozen? ⟨w.heap.size + 1, 1, none⟩ = false := HRES.out wr HBL.out
        obtain ⟨q0, q1, r1, r2, r3, r4⟩ := hr0
        have HI := Lib.hid hI
        clear hI hr
        go_wp2
        refine bodyPost_ret (v := tm t.head a2 t.args.length c2) (by simp [results, Try.results60, go_sem, r1, r2]) rfl ⟨a2, c2, rfl, HI.out.keep (fun b hb => (Below.heap_setCell _ _ _ _ (by simpa using hb.2.2)).trans (Below.heap_setCell _ _ _ _ (by simpa using hb.2.2))) (fun b hb => ⟨hb.1, by simpa using hb.2.1⟩), ?_⟩
        exact (HW.out.setCell (p := ⟨w.heap.size + 1, 0, none⟩) (by simp) _).setCell (p := ⟨w.heap.size + 1, 1, none⟩) (by simp) _

end Go.Proofs.Ytkejacodofmlhaa
