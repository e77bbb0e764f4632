/- Contract of the bank's build. -/
import Derived.Test.YtkejacodofmlhaaBkB
import Derived.Test.YtkejacodofmlhaaRCopy
namespace Go.Proofs.Ytkejacodofmlhaa
set_option linter.unusedVariables false
set_option linter.unusedSimpArgs false
open Go.RowKit Go.Maps

def BdPost (t : T) (w : World) (e : Ending) (w' : World) : Prop :=
  ∃ a c, e = .returned (tm t.head a t.args.length c) ∧ IsArgsp (fun b => w.heap.size ≤ b ∧ b < w'.heap.size) w' t.args a c ∧ Below w.heap.size w w'

set_option maxRecDepth 100000 in
set_option maxHeartbeats 4000000 in
theorem build_any : ∀ (N : Nat) (t : T), t.size ≤ N → ∀ (L : List T) (B Tb M : Nat) (sv : Value) (rs : List (List Int)) (i : Nat) (w : World), B ≤ w.heap.size → IsK B Tb w sv M rs → Enc L rs → L[i]? = some t →
    Calls Try.prog 42 #[.pointer (some ⟨Tb, 0, none⟩), .int .i64 (i : Int)] w (BdPost t w) := by
  intro N
  induction N with
  | zero => intro t ht; have := T.size_pos t; omega
  | succ N ih =>
    intro t htN L B Tb M sv rs i w hBw hG hE hi
    obtain ⟨ids, hr, hl, hx⟩ := hE.row hi
    have h8 := hE.nar t (List.mem_of_getElem? hi)
    have hwf := hE.wf t (List.mem_of_getElem? hi)
    rw [← hl] at hr
    have CA := Lib.hid (show ∀ W, Below w.heap.size w W → Calls Try.prog 43 #[.pointer (some ⟨Tb, 0, none⟩), .int .i64 (i : Int)] W (IdsPost ids W) from fun W hW => args_any B Tb M sv rs W (hG.later hW) i t.head ids (by omega) hr)
    obtain ⟨g, cap, rfl, hgl, hc1, hc2, hok, hcell⟩ := hG.rowCells hr
    have hil := (List.getElem?_eq_some_iff.1 hr).1
    have hTb := hG.lt
    have g0 : w.cell? ⟨Tb, 0, none⟩ = some (.slice (some ⟨g, 0, none⟩) rs.length cap) := by simp [World.cell?, hG.heap]
    have h4 := hG.few
    have hi0 : (0 : Int) ≤ (i : Int) := Int.natCast_nonneg _
    have hi1 : (i : Int) < (rs.length : Int) := by omega
    have c0 : w.cell? ⟨g, i * 10, none⟩ = some (.int .i64 t.head) := hcell 0 t.head rfl
    unfold maxLen at hc2
    have HG := Lib.hid hG
    have HE := Lib.hid hE
    have HX := Lib.hid (show ∀ (j : Nat) (s : T), t.args[j]? = some s → ∃ k : Nat, ids[j]? = some (k : Int) ∧ k < i ∧ L[k]? = some s from fun j s h => hx h)
    have HL := Lib.hid hl
    have HTN := Lib.hid (show T.sizes t.args ≤ N from by have := T.size_eq t; omega)
    have HWF := Lib.hid hwf
    have hb3 : Below w.heap.size w ((w.alloc (tmCells 0 none 0 0)).alloc (tmCells t.head none 0 0)) := ((Below.refl _ w).alloc (Nat.le_refl _) _).alloc (by simp) _
    have HB3 := Lib.hid hb3
    obtain ⟨i0, hi', hz0, hz1, hz2⟩ := info_parts infoTerm
    clear hG hE hx hl htN hwf hr hok hcell hb3 hi
    go_enter Try.func42, Try.ntmps42
    go_wp2_with fail
    obtain ⟨w3, hw3⟩ : ∃ w3, (w.alloc (tmCells 0 none 0 0)).alloc (tmCells t.head none 0 0) = w3 := ⟨_, rfl⟩
    have hs3 : w3.heap.size = w.heap.size + 2 := by rw [← hw3]; simp
    have hout : w3.heap[w.heap.size + 1]? = some (.cells #[.int .i64 t.head, .slice none 0 0] 24 (0, 0)) := by
      rw [← hw3]
      have h := heap_alloc_new (w.alloc (tmCells 0 none 0 0)) (tmCells t.head none 0 0)
      simpa using h
    have hres : ∀ W, Below (w.heap.size + 1) w3 W → ∃ q0 q1, W.cell? ⟨w.heap.size, 0, none⟩ = some q0 ∧ W.cell? ⟨w.heap.size, 1, none⟩ = some q1 ∧ W.frozen? ⟨w.heap.size, 0, none⟩ = false ∧ W.frozen? ⟨w.heap.size, 1, none⟩ = false := fun W hW =>
      ⟨.int .i64 0, .slice none 0 0, (hW.cell (p := ⟨w.heap.size, 0, none⟩) (by simp)).trans (by rw [← hw3]; simp [go_sem]), (hW.cell (p := ⟨w.heap.size, 1, none⟩) (by simp)).trans (by rw [← hw3]; simp [go_sem]), (hW.frozen (p := ⟨w.heap.size, 0, none⟩) (by simp)).trans (by rw [← hw3]; simp [go_sem]), (hW.frozen (p := ⟨w.heap.size, 1, none⟩) (by simp)).trans (by rw [← hw3]; simp [go_sem])⟩
    have HRES := Lib.hid hres
    have hB3 : Below w.heap.size w w3 := by rw [← hw3]; exact HB3.out
    have HB3' := Lib.hid hB3
    refine (CA.out _ HB3.out).mono ?_
    rw [hw3]
    rintro e w4 ⟨a4, c4, rfl, hI4, hp4, hb4⟩
    have HP4 := Lib.hid (show ∀ p, a4 = some p → w.heap.size + 2 ≤ p.block from fun p hp => by have := hp4 p hp; omega)
    clear hp4
    have HOUT := Lib.hid ((hb4.block (w.heap.size + 1) (by omega)).trans hout)
    have hz4 := hb4.size
    have hs4 : w.heap.size + 2 ≤ w4.heap.size := by omega
    have HI4 := Lib.hid hI4
    have HB4 := Lib.hid hb4
    clear hw3 hout hres hB3 hI4 hb4 CA g0 c0 HB3
    have hidn : (ids.length : Int) ≤ 8 := by have := HL.out; omega
    go_wp2
    go_loopw [21] (fun iv wr => OutI (w.heap.size + 1) w4.heap.size t.head t.args w4 iv wr) (fun iv _ => ids.length - (intOf iv).toNat)
    case atStart => exact ⟨0, _, [], Nat.zero_le _, rfl, HOUT.out, World.ownsRow_nil _ _ _ _, trivial, Below.refl _ _, fun _ _ _ => rfl⟩
    case round =>
      obtain ⟨k, v, xs, hk, rfl, hout, hown, hrv, hB, hK⟩ := hrel
      have hz : w4.heap.size ≤ wr.heap.size := hB.size
      have ho1 : wr.cell? ⟨w.heap.size + 1, 1, none⟩ = some v := by simp [World.cell?, hout]
      have hf1 : wr.frozen? ⟨w.heap.size + 1, 1, none⟩ = false := by simp [World.frozen?, hout]
      have hw : Below w.heap.size w wr := HB3'.out.trans ((HB4.out.mono (by omega)).trans (hB.mono (by omega)))
      have HO := Lib.hid hown
      have HR := Lib.hid hrv
      have HW := Lib.hid hw
      have HBL := Lib.hid hB
      have HK := Lib.hid hK
      have HOUT' := Lib.hid hout
      have HK0 := Lib.hid hk
      clear hown hrv hw hB hK hout HOUT hk
      by_cases hlt : k < ids.length
      · have hlt' : k < t.args.length := by have := HL.out; omega
        obtain ⟨s, hs⟩ : ∃ s, t.args[k]? = some s := ⟨_, List.getElem?_eq_getElem hlt'⟩
        obtain ⟨m, hm1, hm2, hm3⟩ := HX.out k s hs
        have hnil : ¬ (Value.slice a4 ids.length c4 = .slice none 0 0 ∧ ids = []) := fun h => by rw [h.2] at hlt; simp at hlt
        obtain ⟨g4, cap4, e4, hg4, hn4, hcap4, hcell4⟩ := (show _ ∨ _ from HI4.out).resolve_left hnil
        simp only [Value.slice.injEq] at e4
        obtain ⟨rfl, _, rfl⟩ := e4
        unfold maxLen at hcap4
        have hgne : g4 ≠ w.heap.size + 1 := fun e => by
          have := HP4.out _ rfl
          simp at this
          omega
        have d4 : wr.cell? ⟨g4, k, none⟩ = some (.int .i64 (m : Int)) := (Mm.cell_of_block (a := ⟨g4, k, none⟩) (HK.out g4 hg4 hgne)).trans (hcell4 k m hm1)
        have hg4r : g4 < wr.heap.size := by omega
        have hk0 : (0 : Int) ≤ (k : Int) := Int.natCast_nonneg _
        have hk1 : (k : Int) < (ids.length : Int) := by omega
        have hsN : s.size ≤ N := by have := T.size_lt_of_mem hs; have := HTN.out; omega
        have hsw : (Lit.int .i64 s.head).wf = true := HE.out.wf s (List.mem_of_getElem? hm3)
        have HSS := Lib.hid hs
        have HSW := Lib.hid hsw
        have CC := Lib.hid (show Calls Try.prog 42 #[.pointer (some ⟨Tb, 0, none⟩), .int .i64 (m : Int)] wr.drew (BdPost s wr.drew) from ih s hsN L B Tb M _ rs m wr.drew (by show B ≤ wr.heap.size; omega) (HG.out.later (HW.out.drew)) HE.out hm3)
        have hoB : w.heap.size + 1 < wr.heap.size := by omega
        have hk2 : k + 1 ≤ maxLen := by unfold maxLen; omega
        clear hs hm1 hm2 hm3 hcell4 hsw hsN
        go_wp2
        go_region_law (first
            | (refine step_append_lies _ (by rfl) _ _ _ (by rfl) w4.heap.size 24 i0 _ 2 32 Try.underlying22 hi' hz0 hz1 hz2 rfl (by omega) v k xs (by rfl) ((ownsRow_later HO.out hB5w).alloc _)
                ⟨w5.heap.size, 0, none⟩ 1 1 [.int .i64 s.head, .slice a2 s.args.length c2] (by rfl) (by rfl) (World.news_of_block (cs := #[.int .i64 s.head, .slice a2 s.args.length c2]) (t := 24) (fr := (0, 0)) (heap_alloc_new w5 _)) (by simp [Value.oneCell'])
                (by omega) hk2 (by omega) (by simp; omega) (w5.heap.size + 1) (by simp) ?_; intro g5 cap5 w6 hown5 hgrow5 hat5 hlt5; have hB5x : Below w4.heap.size wr w6 := ((hB5w.mono hz).alloc hz5 _).grown hgrow5 (by simp; omega) (fun k hk => (HO.out.lt k hk).1); have ho5 := (hB5x.cell (p := ⟨w.heap.size + 1, 1, none⟩) (by simp; omega)).trans ho1; have hf5 := (hB5x.frozen (p := ⟨w.heap.size + 1, 1, none⟩) (by simp; omega)).trans hf1)
            | (go_simp; go_at_call 42; refine CC.out.mono ?_; rintro e w5 ⟨a2, c2, rfl, hI5, hb5⟩; have hB5w : Below wr.heap.size wr w5 := ⟨hb5.os, hb5.tape, hb5.output, hb5.size, hb5.block⟩; have hz5 : w4.heap.size ≤ w5.heap.size := Nat.le_trans hz hB5w.size; have ho4 := (hB5w.cell (p := ⟨w.heap.size + 1, 1, none⟩) (by simp; omega)).trans ho1; have ho4' : ∀ ob, (w5.alloc ob).cell? ⟨w.heap.size + 1, 1, none⟩ = some v := fun ob => (World.cell?_of_block (a := ⟨w.heap.size + 1, 1, none⟩) (Below.heap_alloc w5 ob _ (by simp; omega))).trans ho4))
        all_goals
          go_wp2
          go_roundw
          case rel => exact out_step hlt' HSS.out HSW.out HOUT'.out HO.out HR.out HBL.out HK.out (by omega) hz hI5 hB5w hown5 hgrow5 hat5
          case measure => simp [intOf]; omega
      · obtain rfl : k = ids.length := by have := HK0.out; have := HL.out; omega
        have hr := HR.out
        rw [HL.out, List.take_length] at hr
        have ho := HO.out
        rw [HL.out] at ho
        obtain ⟨a2, c2, rfl, hI⟩ := argsp_of_owns (ok' := fun b => w.heap.size ≤ b ∧ b < wr.heap.size ∧ b ≠ w.heap.size) ho hr (fun b hb => ⟨by have := hb.1; omega, hb.2.1, by have := hb.1; omega⟩) (fun g hg => by have := ho.lt g hg; omega)
        have hc0 : wr.cell? ⟨w.heap.size + 1, 0, none⟩ = some (.int .i64 t.head) := by simp [World.cell?, HOUT'.out]
        have hr0 := HRES.out wr ((HB4.out.mono (by omega)).trans HBL.out)
        obtain ⟨q0, q1, r1, r2, r3, r4⟩ := hr0
        have HI := Lib.hid hI
        clear hI hr ho
        go_wp2
        refine bodyPost_ret (v := tm t.head a2 t.args.length c2) (by simp [results, Try.results42, go_sem, r1, r2]) rfl ⟨a2, c2, rfl, HI.out.keep (fun b hb => (Below.heap_setCell _ _ _ _ (by simpa using hb.2.2)).trans (Below.heap_setCell _ _ _ _ (by simpa using hb.2.2))) (fun b hb => ⟨hb.1, by simpa using hb.2.1⟩), ?_⟩
        exact (HW.out.setCell (p := ⟨w.heap.size, 0, none⟩) (by simp) _).setCell (p := ⟨w.heap.size, 1, none⟩) (by simp) _

end Go.Proofs.Ytkejacodofmlhaa
