/- Contracts of All and of its closure. -/
import Derived.Test.YtdigccbffphilaaAllI
import Derived.Test.YtdigccbffphilaaRCopy
import Derived.Deep.RegionHeld3
import Derived.Laws.EntriesVeiled
namespace Go.Proofs.Ytdigccbffphilaa
set_option linter.unusedVariables false
set_option linter.unusedSimpArgs false
open Go.RowKit

theorem infoInts : (Try.prog.info? 25).map (fun i => (i.zero, i.size, i.bytes)) = some (some (.slice none 0 0), 1, 24) := by kernel_rfl

abbrev visitFn (Ba Bv : Nat) : Value := .func (.func 44) #[] #[.pointer (some ⟨Ba, 0, none⟩), .pointer (some ⟨Bv, 0, none⟩)]

def VisPost (lo Ba : Nat) (acc : List (List Int)) (l : List (List Int)) (w : World) (e : Ending) (w' : World) : Prop :=
  (∃ r, e = .returned r) ∧ Acc lo Ba w' (acc ++ l) ∧ ChgA lo Ba w w'

def VisI (lo Ba : Nat) (acc : List (List Int)) (pre : List Int) (t : T) (w : World) (i : Value) (wr : World) : Prop :=
  ∃ k : Nat, k ≤ t.args.length ∧ i = .int .i64 k ∧ Acc lo Ba wr (acc ++ pre :: T.allps pre 0 (t.args.take k)) ∧ ChgA lo Ba w wr

theorem conc_two (pre : List Int) (k : Nat) (gp cp A : Nat) (W : World) (hl : pre.length ≤ 999999) (hc : ∀ (j : Nat) (z : Int), pre[j]? = some z → W.cell? ⟨gp, j, none⟩ = some (.int .i64 z)) (h0 : W.cell? ⟨A + 1, 0, none⟩ = some (.slice (some ⟨gp, 0, none⟩) pre.length cp)) (h1 : W.cell? ⟨A + 1, 1, none⟩ = some (.slice (some ⟨A, 0, none⟩) 1 1)) (h2 : W.cell? ⟨A, 0, none⟩ = some (.int .i64 (k : Int))) :
    Calls Try.prog 45 #[.slice (some ⟨A + 1, 0, none⟩) 2 2] W (ConcPost [pre, [(k : Int)]] W) :=
  concat_any [pre, [(k : Int)]] (by simp) (by simp; omega) (some ⟨A + 1, 0, none⟩) 2 W (fun j zs hj => by
    match j, hj with
    | 0, hj =>
      simp at hj; subst hj
      exact ⟨_, _, rfl, ⟨gp, 0, none⟩, cp, h0, fun i z hz => by rw [addr_add]; simpa using hc i z hz⟩
    | 1, hj =>
      simp at hj; subst hj
      refine ⟨_, _, rfl, ⟨A, 0, none⟩, 1, h1, fun i z hz => ?_⟩
      match i, hz with
      | 0, hz => simp at hz; subst hz; rw [addr_add]; exact h2
    | j + 2, hj => simp at hj)

theorem chgA_drew {lo Ba : Nat} {A B : World} (h : ChgA lo Ba A B) : ChgA lo Ba A B.drew := ⟨h.below.drew, h.rest⟩

set_option maxRecDepth 100000 in
set_option maxHeartbeats 4000000 in
theorem visit_any : ∀ (N : Nat) (t : T), t.size ≤ N → ∀ (pre : List Int) (acc : List (List Int)) (n₀ lo Ba Bv : Nat) (a : Option Addr) (c : Nat) (pv : Value) (w : World), acc.length + t.size ≤ 1000000 → pre.length + t.size ≤ 1000000 → n₀ ≤ lo → lo ≤ w.heap.size → IsArgs n₀ w t.args a c → PosV lo w pre pv → Acc lo Ba w acc →
    w.heap[Bv]? = some (.cells #[visitFn Ba Bv] 62 (0, 0)) →
    Calls Try.prog 44 #[tm t.head a t.args.length c, pv, .pointer (some ⟨Ba, 0, none⟩), .pointer (some ⟨Bv, 0, none⟩)] w (VisPost lo Ba acc (T.allp pre t) w) := by
  intro N
  induction N with
  | zero => intro t ht; have := T.size_pos t; omega
  | succ N ih =>
    intro t ht pre acc n₀ lo Ba Bv a c pv w hacc hpre hn hlo hA hpv hAcc hvis
    have IH := Lib.hid ih
    clear ih
    obtain ⟨i0, hi, hz0, hz1, hz2⟩ := info_parts infoInts
    obtain ⟨j0, hj, hy0, hy1, hy2⟩ := info_parts info3
    have hsz := T.size_eq t
    have hlz := T.sizes_ge_length t.args
    have hlc : t.args.length ≤ c ∧ c ≤ maxLen := ⟨hA.1, hA.2.1⟩
    unfold maxLen at hlc
    obtain ⟨hl1, hl2⟩ := hlc
    have HPV := Lib.hid hpv
    have HVIS := Lib.hid hvis
    have HA := Lib.hid hA
    have hBvs : Bv < w.heap.size := (Array.getElem?_eq_some_iff.1 hvis).1
    have hBvB : Bv ≠ Ba := fun e => by obtain ⟨_, _, v, xs, h, _⟩ := hAcc; rw [← e, hvis] at h; simp at h
    have HNI := Lib.hid hAcc.notInt
    obtain ⟨gp, cp, curp, rfl, hgp1, hgp2, hcp1, hcp2, hcp3⟩ := hpv
    obtain ⟨hBa, hloBa, v, xs, hall, hown, hps⟩ := hAcc
    have a1 : w.cell? ⟨Ba, 0, none⟩ = some v := by simp [World.cell?, hall]
    have a2 : w.frozen? ⟨Ba, 0, none⟩ = false := by simp [World.frozen?, hall]
    have a3 : ∀ o, (w.alloc o).cell? ⟨Ba, 0, none⟩ = some v := fun o => (World.cell?_of_block (a := ⟨Ba, 0, none⟩) (Below.heap_alloc _ _ _ hBa)).trans a1
    have HALL := Lib.hid hall
    have HO := Lib.hid hown
    have HPS := Lib.hid hps
    clear hall hown hps hvis hA hgp1 hgp2 hcp1 hcp2 hcp3
    go_enter Try.func44, Try.ntmps44
    go_wp2_with (at_builtin; refine stopHere ?_)
    refine Lib.hid ?_
    refine wpList_append_own _ rfl _ _ 36 rfl lo 25 i0 (.slice none 0 0) 1 24 Try.underlying36 hi hz0 hz1 hz2 rfl (by decide) v acc.length xs rfl ((HO.out.alloc _).alloc _) ⟨w.heap.size + 1, 0, none⟩ 1 1 [.slice (some ⟨gp, 0, none⟩) pre.length cp] rfl rfl (cell_one_at _ _ _ _ (by simp)) (by simp [Value.oneCell']) (by unfold maxLen; omega) (by omega) (by simp; omega) ?_
    intro v' w3 hown3 hgr3 _
    obtain ⟨g', cap', rfl⟩ := ownsRow_succ hown3
    have hb2 : Below w.heap.size w ((w.alloc (tmCells t.head a t.args.length c)).alloc (.cells #[.slice (some ⟨gp, 0, none⟩) pre.length cp] 25)) := ((Below.refl _ w).alloc (Nat.le_refl _) _).alloc (by simp) _
    have hvne : v.ownBlock ≠ some Ba := fun e => by obtain ⟨cs, fz, h⟩ := own35 HO.out e; rw [HALL.out] at h; simp at h
    have h3 : w3.heap[Ba]? = some (.cells #[v] 36 (0, 0)) := ((hgr3.block Ba (by simp; omega) (fun e => hvne e.symm)).trans (hb2.block _ hBa)).trans HALL.out
    have hB0 : w3.heap[w.heap.size]? = some (.cells #[.int .i64 t.head, .slice a t.args.length c] 24 (0, 0)) := by
      refine (hgr3.block w.heap.size (by simp; omega) (fun e => ?_)).trans ((Below.heap_alloc _ _ _ (by simp)).trans (heap_alloc_new _ _))
      have := (HO.out.lt _ e.symm).2; omega
    have e1 : w3.cell? ⟨Ba, 0, none⟩ = some v := by simp [World.cell?, h3]
    have e2 : w3.frozen? ⟨Ba, 0, none⟩ = false := by simp [World.frozen?, h3]
    have e3 : (w3.setCell ⟨Ba, 0, none⟩ (.slice (some ⟨g', 0, none⟩) (acc.length + 1) cap')).cell? ⟨w.heap.size, 1, none⟩ = some (.slice a t.args.length c) := by
      rw [World.cell?_setCell_other _ _ _ _ (by intro e; simp at e <;> omega)]; simp [World.cell?, hB0]
    obtain ⟨hAcc4, hChg4⟩ := acc_push hBa hloBa HALL.out HO.out HPS.out hb2 HPV.out hown3 hgr3
    have HAC := Lib.hid hAcc4
    have HCH := Lib.hid hChg4
    clear hAcc4 hChg4 hown3 hgr3 hb2 h3 hB0 a1 a2 a3 HALL HO HPS hvne
    go_wp2
    generalize w3.setCell ⟨Ba, 0, none⟩ (.slice (some ⟨g', 0, none⟩) (acc.length + 1) cap') = w4 at HAC HCH e3 ⊢
    clear e1 e2 e3
    go_loopw [15] (fun i wr => VisI lo Ba acc pre t w i wr) (fun i _ => t.args.length - (intOf i).toNat)
    case atStart => exact ⟨0, Nat.zero_le _, rfl, by simpa [T.allps] using HAC.out, HCH.out⟩
    case round =>
      clear HAC HCH
      obtain ⟨k, hk, rfl, hac, hch⟩ := hrel
      by_cases hlt : k < t.args.length
      · obtain ⟨b, o, s, a', c', rfl, hbn, hs, hswf, hc1, hc2, hA'⟩ := (HA.out.below (hch.below.mono hn)).elem (i := k) hlt
        have hss := T.size_lt_of_mem hs
        have hsz1 := hch.below.size
        have HSS := Lib.hid hs
        have HAC := Lib.hid hac
        have HCH := Lib.hid hch
        have HA' := Lib.hid hA'
        clear hs hA' hswf hac hch
        have hsN : s.size ≤ N := by omega
        go_wp2
        have hbw : Below wr.heap.size wr (wr.alloc (.cells #[.int .i64 s.head, .slice a' s.args.length c'] 24)) := (Below.refl _ _).alloc (Nat.le_refl _) _
        have hlo2 : lo ≤ wr.heap.size := Nat.le_trans hlo hsz1
        have hq : (wr.alloc (.cells #[.int .i64 s.head, .slice a' s.args.length c'] 24)).heap[wr.heap.size]? = some (.cells #[.int .i64 s.head, .slice a' s.args.length c'] 24 (0, 0)) := heap_alloc_new _ _
        have hvi := (HCH.out.typed HVIS.out hBvB (by decide)).trans HVIS.out
        have hvi2 := (hbw.block Bv (Array.getElem?_eq_some_iff.1 hvi).1).trans hvi
        have hAc2 := HAC.out.below hbw
        have hpv2 := (HPV.out.chg HCH.out HNI.out).chg (ChgA.of_below (lo := lo) (Ba := Ba) hbw hlo2) HAC.out.notInt
        have hA2 := HA'.out.below (hbw.mono (Nat.le_trans hn hlo2))
        have hch2 := HCH.out.trans (ChgA.of_below hbw hlo2)
        have hsz2 : (wr.alloc (.cells #[.int .i64 s.head, .slice a' s.args.length c'] 24)).heap.size = wr.heap.size + 1 := by simp
        generalize wr.alloc (.cells #[.int .i64 s.head, .slice a' s.args.length c'] 24) = wa at hbw hq hvi2 hAc2 hpv2 hA2 hch2 hsz2 ⊢
        generalize hBk : wr.heap.size = Bk at hq hsz2 hlo2 ⊢
        clear hBk hbw hvi HCH HAC HA'
        have hBkB : Bk ≠ Ba := fun e => by obtain ⟨_, _, v1, x1, h1, _⟩ := hAc2; rw [← e, hq] at h1; simp at h1
        have hlow : lo ≤ wa.heap.size := by omega
        have p1 : wa.cell? ⟨Bv, 0, none⟩ = some (visitFn Ba Bv) := by simp [World.cell?, hvi2]
        have q1 : wa.cell? ⟨Bk, 0, none⟩ = some (.int .i64 s.head) := by simp [World.cell?, hq]
        have q2 : wa.cell? ⟨Bk, 1, none⟩ = some (.slice a' s.args.length c') := by simp [World.cell?, hq]
        have KP := Lib.hid (show ∀ W, ChgA lo Ba wa W → W.cell? ⟨Bv, 0, none⟩ = some (visitFn Ba Bv) ∧ W.cell? ⟨Bk, 0, none⟩ = some (.int .i64 s.head) ∧ W.cell? ⟨Bk, 1, none⟩ = some (.slice a' s.args.length c') from fun W hW =>
          ⟨(World.cell?_of_block (a := ⟨Bv, 0, none⟩) (hW.typed hvi2 hBvB (by decide))).trans p1, (World.cell?_of_block (a := ⟨Bk, 0, none⟩) (hW.typed hq hBkB (by decide))).trans q1, (World.cell?_of_block (a := ⟨Bk, 1, none⟩) (hW.typed hq hBkB (by decide))).trans q2⟩)
        have hgpl : gp < wa.heap.size ∧ ∀ (j : Nat) (z : Int), pre[j]? = some z → wa.cell? ⟨gp, j, none⟩ = some (.int .i64 z) := by
          obtain ⟨g, cap, cur, h1, _, h3, _, _, h6⟩ := hpv2
          simp at h1
          obtain ⟨rfl, _⟩ := h1
          exact ⟨(Array.getElem?_eq_some_iff.1 h3).1, h6⟩
        have hcc : Calls Try.prog 45 #[.slice (some ⟨wa.heap.size + 1, 0, none⟩) 2 2] ((wa.alloc (.cells #[.int .i64 (k : Int)] 3)).alloc (.cells #[.slice (some ⟨gp, 0, none⟩) pre.length cp, .slice (some ⟨wa.heap.size, 0, none⟩) 1 1] 25)).drew (ConcPost [pre, [(k : Int)]] ((wa.alloc (.cells #[.int .i64 (k : Int)] 3)).alloc (.cells #[.slice (some ⟨gp, 0, none⟩) pre.length cp, .slice (some ⟨wa.heap.size, 0, none⟩) 1 1] 25)).drew) :=
          conc_two pre k gp cp wa.heap.size _ (by omega) (fun j z hz => (World.cell?_of_block (a := ⟨gp, j, none⟩) ((Below.heap_alloc _ _ _ (by have := hgpl.1; simp; omega)).trans (Below.heap_alloc _ _ _ hgpl.1))).trans (hgpl.2 j z hz)) (by simp [go_sem]) (by simp [go_sem]) (by simp [go_sem])
        have hiv : ∀ (W : World) (pv' : Value), Below wa.heap.size wa W → PosV lo W (pre ++ [(k : Int)]) pv' → Calls Try.prog 44 #[tm s.head a' s.args.length c', pv', .pointer (some ⟨Ba, 0, none⟩), .pointer (some ⟨Bv, 0, none⟩)] W (VisPost lo Ba (acc ++ pre :: T.allps pre 0 (t.args.take k)) (T.allp (pre ++ [(k : Int)]) s) W) := fun W pv' hW hp' => by
          have hle : (T.allps pre 0 (t.args.take k)).length + s.size ≤ T.sizes t.args := by
            rw [T.allps_length]
            have h1 := T.sizes_take HSS.out
            have h2 := T.sizes_append (t.args.take (k + 1)) (t.args.drop (k + 1))
            rw [List.take_append_drop] at h2
            omega
          exact IH.out s hsN (pre ++ [(k : Int)]) (acc ++ pre :: T.allps pre 0 (t.args.take k)) n₀ lo Ba Bv a' c' pv' W (by simp; omega) (by simp; omega) hn (Nat.le_trans hlow hW.size) (hA2.below (hW.mono (Nat.le_trans hn hlow))) hp' (hAc2.below hW) ((hW.block Bv (Array.getElem?_eq_some_iff.1 hvi2).1).trans hvi2)
        have CC := Lib.hid hcc
        have IV := Lib.hid hiv
        have HCH2 := Lib.hid hch2
        clear hcc hiv hch2 hvi2 hq hAc2 hpv2 hA2 hgpl hsz2
        go_region_held3 (fun w' => w'.cell? ⟨Bv, 0, none⟩ = some (visitFn Ba Bv) ∧ w'.cell? ⟨Bk, 0, none⟩ = some (.int .i64 s.head) ∧ w'.cell? ⟨Bk, 1, none⟩ = some (.slice a' s.args.length c'))
          (first
            | exact KP.out _ hC6
            | exact KP.out _ (ChgA.of_below hB5 hlow)
            | exact KP.out _ (chgA_drew (ChgA.refl _ _ _))
            | exact KP.out _ (chgA_drew ((ChgA.refl _ _ _).alloc hlow _))
            | exact KP.out _ (chgA_drew (((ChgA.refl _ _ _).alloc hlow _).alloc hlow _)))
          (first
            | (go_at_call 45; refine CC.out.mono ?_; rintro e w5 ⟨pv5, rfl, hpv5, hb5⟩; have hB5 : Below wa.heap.size wa w5 := (((Below.refl _ wa).alloc (Nat.le_refl _) _).alloc (by simp) _).drew.trans (hb5.mono (by simp; omega)); have hpv5' : PosV lo w5 (pre ++ [(k : Int)]) pv5 := by simpa using hpv5.mono (show lo ≤ _ by simp; omega))
            | (go_at_call 44; refine (IV.out _ pv5 hB5 hpv5').mono ?_; rintro e w6 ⟨⟨r6, rfl⟩, hac6, hch6⟩; have hC6 : ChgA lo Ba wa w6 := (ChgA.of_below hB5 hlow).trans hch6))
        go_wp2
        go_roundw
        case rel =>
          refine ⟨k + 1, by omega, by go_num, ?_, HCH2.out.trans hC6⟩
          rw [T.allps_take pre t.args 0 k s HSS.out]
          simpa using hac6
        case measure => simp [intOf]; omega
      · obtain rfl : k = t.args.length := by omega
        have hac' := hac
        rw [List.take_length, ← T.allp_eq] at hac'
        have HAC := Lib.hid hac'
        have HCH := Lib.hid hch
        clear hac hac' hch
        go_wp2
        go_end0
        exact ⟨⟨_, rfl⟩, HAC.out, HCH.out⟩

def AllPost (t : T) (w : World) (e : Ending) (w' : World) : Prop :=
  ∃ v xs, e = .returned v ∧ w'.ownsRow w.heap.size 25 1 v (T.allp [] t).length xs ∧ PosVs w.heap.size w' (T.allp [] t) xs ∧ Below w.heap.size w w'

set_option maxRecDepth 100000 in
set_option maxHeartbeats 2000000 in
theorem all_any (t : T) (ht : t.size ≤ 500000) (n₀ : Nat) (a : Option Addr) (c : Nat) (w : World) (hn : n₀ ≤ w.heap.size) (hA : IsArgs n₀ w t.args a c) :
    Calls Try.prog 18 #[tm t.head a t.args.length c] w (AllPost t w) := by
  have HA := Lib.hid hA
  clear hA
  go_enter Try.func18, Try.ntmps18
  go_wp2
  have hbl : Below w.heap.size w (((w.alloc (tmCells t.head a t.args.length c)).alloc (.cells #[.slice none 0 0] 36)).alloc (.cells #[visitFn (w.heap.size + 1) (w.heap.size + 1 + 1)] 62)) := (((Below.refl _ w).alloc (Nat.le_refl _) _).alloc (by simp) _).alloc (by simp; omega) _
  have k0 : (((w.alloc (tmCells t.head a t.args.length c)).alloc (.cells #[.slice none 0 0] 36)).alloc (.cells #[visitFn (w.heap.size + 1) (w.heap.size + 1 + 1)] 62)).heap[w.heap.size]? = some (.cells #[.int .i64 t.head, .slice a t.args.length c] 24 (0, 0)) := by
    rw [Below.heap_alloc _ _ _ (by simp; omega), Below.heap_alloc _ _ _ (by simp)]; exact heap_alloc_new _ _
  have k1 : (((w.alloc (tmCells t.head a t.args.length c)).alloc (.cells #[.slice none 0 0] 36)).alloc (.cells #[visitFn (w.heap.size + 1) (w.heap.size + 1 + 1)] 62)).heap[w.heap.size + 1]? = some (.cells #[.slice none 0 0] 36 (0, 0)) := by
    rw [Below.heap_alloc _ _ _ (by simp)]
    have := heap_alloc_new (w.alloc (tmCells t.head a t.args.length c)) (.cells #[.slice none 0 0] 36)
    simpa using this
  have k2 : (((w.alloc (tmCells t.head a t.args.length c)).alloc (.cells #[.slice none 0 0] 36)).alloc (.cells #[visitFn (w.heap.size + 1) (w.heap.size + 1 + 1)] 62)).heap[w.heap.size + 2]? = some (.cells #[visitFn (w.heap.size + 1) (w.heap.size + 1 + 1)] 62 (0, 0)) := by
    have := heap_alloc_new ((w.alloc (tmCells t.head a t.args.length c)).alloc (.cells #[.slice none 0 0] 36)) (.cells #[visitFn (w.heap.size + 1) (w.heap.size + 1 + 1)] 62)
    simpa using this
  have hsz : (((w.alloc (tmCells t.head a t.args.length c)).alloc (.cells #[.slice none 0 0] 36)).alloc (.cells #[visitFn (w.heap.size + 1) (w.heap.size + 1 + 1)] 62)).heap.size = w.heap.size + 3 := by simp
  generalize ((w.alloc (tmCells t.head a t.args.length c)).alloc (.cells #[.slice none 0 0] 36)).alloc (.cells #[visitFn (w.heap.size + 1) (w.heap.size + 1 + 1)] 62) = wa at hbl k0 k1 k2 hsz ⊢
  have p1 : wa.cell? ⟨w.heap.size + 2, 0, none⟩ = some (visitFn (w.heap.size + 1) (w.heap.size + 1 + 1)) := by simp [World.cell?, k2]
  have q1 : wa.cell? ⟨w.heap.size, 0, none⟩ = some (.int .i64 t.head) := by simp [World.cell?, k0]
  have q2 : wa.cell? ⟨w.heap.size, 1, none⟩ = some (.slice a t.args.length c) := by simp [World.cell?, k0]
  have KP := Lib.hid (show ∀ W, ChgA w.heap.size (w.heap.size + 1) wa W → W.cell? ⟨w.heap.size + 2, 0, none⟩ = some (visitFn (w.heap.size + 1) (w.heap.size + 1 + 1)) ∧ W.cell? ⟨w.heap.size, 0, none⟩ = some (.int .i64 t.head) ∧ W.cell? ⟨w.heap.size, 1, none⟩ = some (.slice a t.args.length c) from fun W hW =>
    ⟨(World.cell?_of_block (a := ⟨w.heap.size + 2, 0, none⟩) (hW.typed k2 (by show w.heap.size + 2 ≠ w.heap.size + 1; omega) (by decide))).trans p1, (World.cell?_of_block (a := ⟨w.heap.size, 0, none⟩) (hW.typed k0 (by show w.heap.size ≠ w.heap.size + 1; omega) (by decide))).trans q1, (World.cell?_of_block (a := ⟨w.heap.size, 1, none⟩) (hW.typed k0 (by show w.heap.size ≠ w.heap.size + 1; omega) (by decide))).trans q2⟩)
  have hac : Acc w.heap.size (w.heap.size + 1) wa [] := ⟨by omega, by omega, .slice none 0 0, [], k1, World.ownsRow_nil _ _ _ _, trivial⟩
  have hcc : Calls Try.prog 45 #[.slice none 0 0] wa.drew (ConcPost [] wa.drew) := concat_any [] (by simp) (by simp) none 0 wa.drew (fun j zs hj => by simp at hj)
  have hiv : ∀ (W : World) (pv' : Value), Below wa.heap.size wa W → PosV w.heap.size W [] pv' → Calls Try.prog 44 #[tm t.head a t.args.length c, pv', .pointer (some ⟨w.heap.size + 1, 0, none⟩), .pointer (some ⟨w.heap.size + 1 + 1, 0, none⟩)] W (VisPost w.heap.size (w.heap.size + 1) [] (T.allp [] t) W) := fun W pv' hW hp' =>
    visit_any t.size t (Nat.le_refl _) [] [] n₀ w.heap.size (w.heap.size + 1) (w.heap.size + 1 + 1) a c pv' W (by simp; omega) (by simp; omega) hn (Nat.le_trans (by omega) hW.size) (HA.out.below ((hbl.trans (hW.mono (by omega))).mono hn)) hp' (hac.below hW) ((hW.block _ (by omega)).trans k2)
  have CC := Lib.hid hcc
  have IV := Lib.hid hiv
  have HBL := Lib.hid hbl
  have HSZ := Lib.hid hsz
  have hlow : w.heap.size ≤ wa.heap.size := by omega
  clear hcc hiv hac k0 k1 k2 hbl hsz
  go_region_held3 (fun w' => w'.cell? ⟨w.heap.size + 2, 0, none⟩ = some (visitFn (w.heap.size + 1) (w.heap.size + 1 + 1)) ∧ w'.cell? ⟨w.heap.size, 0, none⟩ = some (.int .i64 t.head) ∧ w'.cell? ⟨w.heap.size, 1, none⟩ = some (.slice a t.args.length c))
    (first
      | exact KP.out _ hC6
      | exact KP.out _ (ChgA.of_below hB5 hlow)
      | exact KP.out _ (chgA_drew (ChgA.refl _ _ _)))
    (first
      | (go_at_call 45; refine CC.out.mono ?_; rintro e w5 ⟨pv5, rfl, hpv5, hb5⟩; have hB5 : Below wa.heap.size wa w5 := (Below.refl _ wa).drew.trans hb5; have hpv5' : PosV w.heap.size w5 [] pv5 := hpv5.mono hlow)
      | (go_at_call 44; refine (IV.out _ pv5 hB5 hpv5').mono ?_; rintro e w6 ⟨⟨r6, rfl⟩, hac6, hch6⟩; have hC6 : ChgA w.heap.size (w.heap.size + 1) wa w6 := (ChgA.of_below hB5 hlow).trans hch6))
  obtain ⟨_, _, v, xs, hv, hown, hps⟩ := hac6
  have hcell : w6.cell? ⟨w.heap.size + 1, 0, none⟩ = some v := by simp [World.cell?, hv]
  simp only [List.nil_append] at hown hps
  have HO := Lib.hid hown
  have HPS := Lib.hid hps
  have HC6 := Lib.hid hC6
  clear hown hps hv hC6 hch6 hpv5 hpv5' hB5 hb5 p1 q1 q2 KP
  have hvs : ∃ a1 n1 c1, v = .slice a1 n1 c1 := by
    rcases HO.out.2 with ⟨h, _⟩ | ⟨g, cap, cur, h, _⟩
    · exact ⟨_, _, _, h⟩
    · exact ⟨_, _, _, h⟩
  obtain ⟨a1, n1, c1, rfl⟩ := hvs
  go_wp2
  go_ret
  exact ⟨_, xs, rfl, HO.out, HPS.out, HBL.out.trans (HC6.out.below.mono (Nat.le_refl _))⟩

end Go.Proofs.Ytdigccbffphilaa
