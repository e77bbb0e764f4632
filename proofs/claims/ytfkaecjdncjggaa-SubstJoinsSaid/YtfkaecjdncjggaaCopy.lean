/- Contract of Copy. -/
import Derived.Test.YtfkaecjdncjggaaCpI
namespace Go.Proofs.Ytfkaecjdncjggaa
set_option linter.unusedVariables false
set_option linter.unusedSimpArgs false
open Go.RowKit

theorem infoTerms : (Try.prog.info? 29).map (fun i => (i.zero, i.size, i.bytes)) = some (some (.slice none 0 0), 1, 24) := by kernel_rfl

/-- What a copy is: a term of the same form, all of whose blocks are new and may be written. -/
def CopyPostW (t : T) (w : World) (e : Ending) (w' : World) : Prop :=
  ∃ a2 c2, e = .returned (tm t.head a2 t.args.length c2) ∧ IsArgsp (fun b => w.heap.size ≤ b ∧ Blk w' b) w' t.args a2 c2 ∧ Below w.heap.size w w'

def CpOut (n₀ : Nat) (w w2 : World) (t : T) (gk : Nat) (st : Value) (wr : World) : Prop :=
  ∃ S, CpS n₀ w w2 t st S wr (oldS S) ∧ sumS S = gk ∧ gk ≤ t.size ∧ w.heap.size + 4 ≤ wr.heap.size

set_option maxRecDepth 100000 in
set_option maxHeartbeats 4000000 in
theorem copy_any (t : T) (ht : t.size ≤ 1000000) (n₀ : Nat) (a : Option Addr) (c : Nat) (w : World) (hn : n₀ ≤ w.heap.size) (hwf : (Lit.int .i64 t.head).wf = true) (hA : IsArgs n₀ w t.args a c) :
    Calls Try.prog 55 #[tm t.head a t.args.length c] w (CopyPostW t w) := by
  have HWF := Lib.hid hwf
  have HA := Lib.hid hA
  clear hwf hA
  obtain ⟨i0, hi, hz0, hz1, hz2⟩ := info_parts infoTerms
  go_enter Try.func55, Try.ntmps55
  go_wp2
  obtain ⟨w2, hw2⟩ : ∃ w2, (w.alloc (tmCells t.head a t.args.length c)).alloc (tmCells 0 none 0 0) = w2 := ⟨_, rfl⟩
  have hs2 : w2.heap.size = w.heap.size + 2 := by rw [← hw2]; simp
  have hB2 : Below w.heap.size w w2 := by rw [← hw2]; exact ((Below.refl _ w).alloc (Nat.le_refl _) _).alloc (by simp) _
  have hres : ∀ W, Below (w.heap.size + 2) w2 W → ∃ q0 q1, W.cell? ⟨w.heap.size + 1, 0, none⟩ = some q0 ∧ W.cell? ⟨w.heap.size + 1, 1, none⟩ = some q1 ∧ W.frozen? ⟨w.heap.size + 1, 0, none⟩ = false ∧ W.frozen? ⟨w.heap.size + 1, 1, none⟩ = false := fun W hW =>
    ⟨.int .i64 0, .slice none 0 0, (hW.cell (p := ⟨w.heap.size + 1, 0, none⟩) (by simp)).trans (by rw [← hw2]; simp [go_sem]), (hW.cell (p := ⟨w.heap.size + 1, 1, none⟩) (by simp)).trans (by rw [← hw2]; simp [go_sem]), (hW.frozen (p := ⟨w.heap.size + 1, 0, none⟩) (by simp)).trans (by rw [← hw2]; simp [go_sem]), (hW.frozen (p := ⟨w.heap.size + 1, 1, none⟩) (by simp)).trans (by rw [← hw2]; simp [go_sem])⟩
  have hst : CpOut n₀ w w2 t (T.sizes [t]) (.slice (some ⟨w.heap.size + 1 + 1 + 1, 0, none⟩) 1 1) ((w2.alloc (.cells #[.int .i64 t.head, .slice a t.args.length c] 31)).alloc (.cells #[.slice (some ⟨w.heap.size + 1 + 1, 0, none⟩) 1 1] 29)) := by
    have hb1 : ((w2.alloc (.cells #[.int .i64 t.head, .slice a t.args.length c] 31)).alloc (.cells #[.slice (some ⟨w.heap.size + 1 + 1, 0, none⟩) 1 1] 29)).heap[w.heap.size + 2]? = some (.cells #[.int .i64 t.head, .slice a t.args.length c] 31 (0, 0)) := by
      rw [Below.heap_alloc _ _ _ (by simp; omega)]
      have := heap_alloc_new w2 (.cells #[.int .i64 t.head, .slice a t.args.length c] 31)
      rwa [hs2] at this
    have hb2 : ((w2.alloc (.cells #[.int .i64 t.head, .slice a t.args.length c] 31)).alloc (.cells #[.slice (some ⟨w.heap.size + 1 + 1, 0, none⟩) 1 1] 29)).heap[w.heap.size + 3]? = some (.cells #[.slice (some ⟨w.heap.size + 1 + 1, 0, none⟩) 1 1] 29 (0, 0)) := by
      have := heap_alloc_new (w2.alloc (.cells #[.int .i64 t.head, .slice a t.args.length c] 31)) (.cells #[.slice (some ⟨w.heap.size + 1 + 1, 0, none⟩) 1 1] 29)
      simpa [hs2] using this
    have hbl : Below w.heap.size w ((w2.alloc (.cells #[.int .i64 t.head, .slice a t.args.length c] 31)).alloc (.cells #[.slice (some ⟨w.heap.size + 1 + 1, 0, none⟩) 1 1] 29)) := (hB2.alloc (by omega) _).alloc (by simp; omega) _
    have hbl2 : Below (w.heap.size + 2) w2 ((w2.alloc (.cells #[.int .i64 t.head, .slice a t.args.length c] 31)).alloc (.cells #[.slice (some ⟨w.heap.size + 1 + 1, 0, none⟩) 1 1] 29)) := ((Below.refl _ w2).alloc (by omega) _).alloc (by simp; omega) _
    have hsz : ((w2.alloc (.cells #[.int .i64 t.head, .slice a t.args.length c] 31)).alloc (.cells #[.slice (some ⟨w.heap.size + 1 + 1, 0, none⟩) 1 1] 29)).heap.size = w.heap.size + 4 := by simp; omega
    generalize (w2.alloc (.cells #[.int .i64 t.head, .slice a t.args.length c] 31)).alloc (.cells #[.slice (some ⟨w.heap.size + 1 + 1, 0, none⟩) 1 1] 29) = wr at *
    have hrow : IsRow n₀ wr [t] (w.heap.size + 2) 0 := by
      simp only [IsRow, and_true]
      exact isT_iff.2 ⟨HWF.out, by simp [World.cell?, hb1], a, c, by simp [World.cell?, hb1], HA.out.below (hbl.mono hn)⟩
    refine ⟨[(w.heap.size + 2, 1, [t])], ⟨?_, ?_, by simp [blks], ⟨_, hb1⟩, nrow_old [t] (fun j _ hj => ⟨_, List.mem_singleton.2 rfl, rfl, by simpa using hj⟩) hrow, hbl2⟩, by simp [sumS], by simp [T.sizes], by omega⟩
    · exact ⟨by simp [stkVals], .inr ⟨w.heap.size + 3, 1, _, rfl, Nat.le_refl _, hb2, Nat.le_refl _, by simp [maxLen], rfl, rfl⟩⟩
    · intro e he
      simp at he
      subst he
      exact ⟨Nat.le_refl _, ⟨_, hb1⟩, hrow, by simp, by simp [maxLen], by simp⟩
  rw [hw2]
  have HB2 := Lib.hid hB2
  have HRES := Lib.hid hres
  have HST := Lib.hid hst
  have HS2 := Lib.hid hs2
  clear hw2 hB2 hres hst hs2
  go_loopg [4] (T.sizes [t]) (fun gk st wr => CpOut n₀ w w2 t gk st wr)
  case atStart => exact HST.out
  case round =>
    clear HST
    obtain ⟨S, hS, hgk, hgt, hsz⟩ := hrel
    have HGK := Lib.hid hgk
    clear hgk
    rcases List.eq_nil_or_concat S with rfl | ⟨S0, ⟨g, c', ts⟩, rfl⟩
    · have hrow := nrow_done (fun b j ⟨e, he, _⟩ => by simp at he) [t] hS.row
      simp only [IsRowp, and_true] at hrow
      obtain ⟨_, r1, a2, c2, r2, hI⟩ := isTp_iff.1 hrow
      obtain ⟨q0, q1, r3, r4, r5, r6⟩ := HRES.out wr hS.below
      have HI := Lib.hid hI
      have HBL := Lib.hid hS.below
      have hst : ∃ a3 c3, u4 = Value.slice a3 0 c3 := by
        rcases hS.own.2 with ⟨h, _⟩ | ⟨gs, cap, cur, h, _⟩
        · exact ⟨none, 0, h⟩
        · exact ⟨_, _, h⟩
      obtain ⟨a3, c3, rfl⟩ := hst
      clear hI hrow hS
      go_wp2
      refine bodyPost_ret (v := tm t.head a2 t.args.length c2) (by simp [results, Try.results55, go_sem, r3, r4]) rfl ⟨a2, c2, rfl, HI.out.keep (fun b hb => (Below.heap_setCell _ _ _ _ (by have := hb.1; simp; omega)).trans (Below.heap_setCell _ _ _ _ (by have := hb.1; simp; omega))) (fun b hb => ⟨by have := hb.1; omega, hb.2.setCell.setCell⟩), ?_⟩
      exact ((HB2.out.trans (HBL.out.mono (by omega))).setCell (p := ⟨w.heap.size + 1, 0, none⟩) (by simp) _).setCell (p := ⟨w.heap.size + 1, 1, none⟩) (by simp) _
    · simp only [List.concat_eq_append] at hS
      obtain ⟨gs, cap, rfl, hcap, hcm, hcell⟩ := cps_stack hS
      obtain ⟨hg1, hg2, hg3, hg4, hg5, hg6⟩ := hS.ents (g, c', ts) (by simp)
      dsimp only at hg1 hg2 hg3 hg4 hg5 hg6
      have hin := cpin_start hS hsz
      have hsum := HGK.out
      rw [List.concat_eq_append] at hsum
      rw [hsum] at hin
      have hlt : 0 < ts.length := List.length_pos_iff.2 hg6
      have hlm : ts.length ≤ 1000000 := by have h1 := T.sizes_ge_length ts; have h2 := sumS_snoc S0 (g, c', ts); dsimp only at h2; omega
      have HIN := Lib.hid hin
      have HG1 := Lib.hid hg1
      have HSL := Lib.hid (length_le_sumS S0 (fun e he => hS.ents e (List.mem_append_left _ he)))
      have hs0 : S0.length ≤ 1000000 := by have h1 := HSL.out; have h2 := sumS_snoc S0 (g, c', ts); omega
      unfold maxLen at hcm hg5
      clear hin hS hg2 hg3 hg6 hsum HSL
      go_wp2
      go_loopw [4, 27] (fun st i wq => CpIn n₀ w w2 t g ts gk st i wq) (fun _ i _ => ts.length - (intOf i).toNat)
      case atStart => exact HIN.out
      case round =>
        clear HIN hcell
        obtain ⟨k, S, hk, rfl, h, hgS, hbg, hrow, hM, hsz'⟩ := hrel
        have hsl := length_le_sumS S h.ents
        have hbs := hbg.lt
        by_cases hlk : k < ts.length
        · have hs := List.getElem?_eq_getElem hlk
          generalize ts[k] = s at hs
          have hst : IsT n₀ wr s g (k * 2) := by
            have := hrow.at (i := 0) (t := s) (by simpa using hs)
            simpa using this
          obtain ⟨_, hc1, a', c1, hc2, hA'⟩ := isT_iff.1 hst
          have hsd := T.sizes_drop hs
          have hsq := T.size_eq s
          have hsl2 := T.sizes_ge_length s.args
          have hsa : s.args.length ≤ 1000000 := by omega
          have hSl : S.length + 1 ≤ 1000000 := by omega
          have hne := hbg.not_own h.own
          have hfz := hbg.frozen (o := k * 2 + 1)
          have HH := Lib.hid h
          have HGS := Lib.hid hgS
          have HBG := Lib.hid hbg
          have HROW := Lib.hid hrow
          have HM := Lib.hid hM
          have HSS := Lib.hid hs
          have HNE := Lib.hid hne
          have HA' := Lib.hid hA'
          clear h hgS hbg hrow hM hs hst hne hA' hsd hsq hsl hsl2
          go_wp2_with fail
          refine (clone_any s.args hsa n₀ a' c1 wr (by omega) HA'.out).mono ?_
          rintro e w4 ⟨a2, c2, rfl, hN, hb⟩
          have d2 := (hb.cell (p := ⟨g, k * 2 + 1, none⟩) hbs).trans hc2
          have f2 := (hb.frozen (p := ⟨g, k * 2 + 1, none⟩) hbs).trans hfz
          have hz4 := hb.size
          have HN := Lib.hid hN
          have HB4 := Lib.hid hb
          clear hb hc1 hc2 hfz
          by_cases hnil : s.args.length = 0
          · have hnil2 : s.args = [] := List.eq_nil_of_length_eq_zero hnil
            have HNL := Lib.hid hnil2
            clear hnil2 hN
            have hz : ¬ 0 < s.args.length := by omega
            clear hnil
            go_wp2
            go_roundw
            case rel => exact cpin_nil HH.out hn hg1 HBG.out HGS.out HSS.out HROW.out HB4.out HN.out hsz' HM.out HNL.out
            case measure => simp [intOf]; omega
          · have hnil2 : s.args ≠ [] := fun e => hnil (by rw [e]; rfl)
            obtain ⟨g2, rfl⟩ : ∃ g2, a2 = some ⟨g2, 0, none⟩ := by
              rcases hN.2.2 with h | ⟨g2, _, h, _⟩
              · exact absurd h hnil2
              · exact ⟨g2, h⟩
            have HNL := Lib.hid hnil2
            clear hnil2 hN
            have hz : 0 < s.args.length := by omega
            clear hnil
            go_wp2_with (at_builtin; refine stopHere ?_)
            refine Lib.hid ?_
            refine wpList_append_own _ rfl _ _ 109 rfl (w.heap.size + 3) 29 i0 (.slice none 0 0) 1 24 Try.underlying109 hi hz0 hz1 hz2 rfl (by decide) u4 S.length (stkVals S) rfl ((ownsRow_setCell_ne (ownsRow_later HH.out.own HB4.out) HNE.out _).alloc _) ⟨w4.heap.size, 0, none⟩ 1 1 [.slice (some ⟨g2, 0, none⟩) s.args.length c2] rfl rfl (cell_one_at _ _ _ _ (by simp)) (by simp [Value.oneCell']) (by unfold maxLen; omega) (by omega) (by simp; omega) ?_
            intro v' w7 hown hgr _
            have HO7 := Lib.hid hown
            have HG7 := Lib.hid hgr
            clear hown hgr
            go_wp2
            go_roundw
            case rel => exact cpin_push HH.out hn hg1 HBG.out HGS.out HSS.out HROW.out HB4.out HN.out hsz' HM.out HNL.out HO7.out HG7.out
            case measure => simp [intOf]; omega
        · obtain rfl : k = ts.length := by omega
          have hS2 : CpS n₀ w w2 t u4 S wr (oldS S) := ⟨h.own, h.ents, h.nodup, h.root, nrow_iff (fun b j => ⟨fun e => e.elim id (fun e => by omega), fun e => .inl e⟩) [t] h.row, h.below⟩
          have HS2' := Lib.hid hS2
          have HM := Lib.hid hM
          clear h hgS hbg hrow hM hS2
          go_wp2
          go_roundg (sumS S)
          case measure => have := HM.out; omega
          case rel => exact ⟨S, HS2'.out, rfl, by have := HM.out; omega, hsz'⟩

end Go.Proofs.Ytfkaecjdncjggaa
