/- Contracts of the reference's gather and Gather. -/
import Derived.Test.YtcbjnfdhghhgeaaMat
import Derived.Test.YtcbjnfdhghhgeaaQ1j
import Derived.StillTailTactics
import Derived.Deep.AppendLies
import Derived.Deep.RegionHeld3
import Derived.Deep.CutRange
import Derived.Test.YtcbjnfdhghhgeaaQ1i
namespace Go.Proofs.Ytcbjnfdhghhgeaa
set_option linter.unusedVariables false
set_option linter.unusedSimpArgs false
open Go.RowKit

/-- All below a bound, and all terms, are as before. -/
def KeepT (base : Nat) (w w' : World) : Prop := Below base w w' ∧ ∀ (b : Nat) (cs : Array Value) (fz : Nat × Nat), w.heap[b]? = some (.cells cs 25 fz) → w'.heap[b]? = w.heap[b]?
theorem KeepT.trans {base : Nat} {a b c : World} (h : KeepT base a b) (k : KeepT base b c) : KeepT base a c := ⟨h.1.trans k.1, fun q cs fz hq => (k.2 q cs fz ((h.2 q cs fz hq).trans hq)).trans (h.2 q cs fz hq)⟩
theorem keepT_of_below {base : Nat} {a b : World} (h : Below a.heap.size a b) (hb : base ≤ a.heap.size) : KeepT base a b := ⟨h.mono hb, fun q cs fz hq => h.block q (Array.getElem?_eq_some_iff.1 hq).1⟩
theorem keepT_grown {base : Nat} {a b : World} {v : Value} {n : Nat} {xs : List Value} (ho : a.ownsRow base 43 3 v n xs) (h : a.grownBy b v.ownBlock) (hb : base ≤ a.heap.size) : KeepT base a b := by
  refine ⟨(Below.refl base a).grown h hb (fun q hq => (ho.lt q hq).1), fun q cs fz hq => h.block q (Array.getElem?_eq_some_iff.1 hq).1 (fun e => ?_)⟩
  obtain ⟨cs', fz', h'⟩ := Lib.ownsRow_kind ho q e.symm
  rw [hq] at h'
  cases h'
/-- A list of bindings that is built up: a row of one's own, its terms below n₀. -/
def GRow (n₀ base : Nat) (M : Sb) (v : Value) (w : World) : Prop := ∃ xs, w.ownsRow base 43 3 v M.length xs ∧ BVals (fun b => b < n₀) w M xs
theorem GRow.bs {n₀ base : Nat} {M : Sb} {v : Value} {w : World} (h : GRow n₀ base M v w) (hn : n₀ ≤ w.heap.size) : ∃ a c, v = .slice a M.length c ∧ IsBs w.heap.size w M a c := by
  obtain ⟨xs, h1, h2⟩ := h
  exact isBs_of_owns h1 h2 (fun b hb => by omega) (fun g hg => (h1.lt g hg).2)
theorem GRow.below {n₀ base : Nat} {M : Sb} {v : Value} {w w' : World} (h : GRow n₀ base M v w) (hn : n₀ ≤ w.heap.size) (hb : Below w.heap.size w w') : GRow n₀ base M v w' := by
  obtain ⟨xs, h1, h2⟩ := h
  exact ⟨xs, ownsRow_later h1 hb, h2.keep (fun b hb' => hb.block b (by omega)) (fun _ h => h)⟩
def GPost (n₀ base : Nat) (r : Option Sb) (w : World) (e : Ending) (w' : World) : Prop :=
  KeepT base w w' ∧ ((∃ M' v', r = some M' ∧ e = .returned (.tuple #[v', .bool true]) ∧ GRow n₀ base M' v' w') ∨ (r = none ∧ ∃ a n c, e = .returned (.tuple #[.slice a n c, .bool false])))
def GaI (M : Sb) (v : Int) (w : World) (i : Value) (wr : World) : Prop := ∃ k : Nat, k ≤ M.length ∧ i = .int .i64 k ∧ bnd (M.take k) v = false ∧ Below w.heap.size w wr
theorem bnd_take {M : Sb} {v : Int} {k : Nat} {x : Int × T} (hb : bnd (M.take k) v = false) (hk : M[k]? = some x) (hx : x.1 ≠ v) : bnd (M.take (k + 1)) v = false := by
  obtain ⟨h, e⟩ := List.getElem?_eq_some_iff.1 hk
  obtain ⟨y, t⟩ := x
  rw [List.take_succ_eq_append_getElem h, e, bnd_snoc, hb, Bool.false_or, decide_eq_false hx]
theorem ofS_found {M : Sb} {v : Int} {k : Nat} {x : Int × T} (hb : bnd (M.take k) v = false) (hk : M[k]? = some x) (hx : x.1 = v) : bnd M v = true ∧ ofS M v = x.2 := by
  refine ⟨bnd_mem.2 (List.mem_map.2 ⟨x, List.mem_of_getElem? hk, hx⟩), ?_⟩
  induction M generalizing k with
  | nil => simp at hk
  | cons p M ih =>
    obtain ⟨y, t⟩ := p
    cases k with
    | zero => simp at hk; subst hk; simp at hx; rw [ofS, if_pos hx]
    | succ k =>
      rw [List.take_succ_cons] at hb
      simp only [bnd, List.any_cons, Bool.or_eq_false_iff, decide_eq_false_iff_not] at hb
      rw [ofS, if_neg hb.1]
      exact ih hb.2 (by simpa using hk)

def GbI (n₀ base : Nat) (ps ts : List T) (M : Sb) (wL : World) (s i : Value) (wr : World) : Prop :=
  ∃ (k : Nat) (M1 : Sb), k ≤ ps.length ∧ i = .int .i64 k ∧ T.exts (ps.take k) (ts.take k) M = some M1 ∧ GRow n₀ base M1 s wr ∧ KeepT base wL wr

theorem gpost_form {n₀ base : Nat} {r : Option Sb} {w w' : World} {e : Ending} (h : GPost n₀ base r w e w') : ∃ v b, e = .returned (.tuple #[v, .bool b]) := by
  rcases h.2 with ⟨_, v, _, h, _⟩ | ⟨_, a, n, c, h⟩
  · exact ⟨v, true, h⟩
  · exact ⟨_, false, h⟩
def Gat2 (n₀ base : Nat) (r : Option Sb) (w : World) (v10 v11 : Value) (w' : World) : Prop := ∃ e : Ending, KeepT base w.drew w' ∧ ((∃ M' v', r = some M' ∧ e = .returned (.tuple #[v', .bool true]) ∧ GRow n₀ base M' v' w') ∨ (r = none ∧ ∃ a n c, e = .returned (.tuple #[.slice a n c, .bool false]))) ∧ e = .returned (.tuple #[v10, v11])

set_option maxRecDepth 100000 in
set_option maxHeartbeats 4000000 in
theorem gather_any : ∀ (N : Nat) (p : T), p.size ≤ N → p.size ≤ 1000000000000 → ∀ (t : T), t.size ≤ 1000000000000 → ∀ (M : Sb), M.length + p.size ≤ 1000000000000 → (∀ q ∈ M, q.2.size ≤ 1000000000000) → ∀ (n₀ base : Nat) (a : Option Addr) (c : Nat) (a' : Option Addr) (c' : Nat) (v : Value) (w : World), n₀ ≤ base → base ≤ w.heap.size → GRow n₀ base M v w → (Lit.int .i64 p.head).wf = true → (Lit.int .i64 t.head).wf = true → IsArgs n₀ w p.args a c → IsArgs n₀ w t.args a' c' →
    Calls Try.prog 97 #[tm p.head a p.args.length c, tm t.head a' t.args.length c', v] w (GPost n₀ base (p.ext t M) w) := by
  intro N
  induction N with
  | zero => intro p hp; have := T.size_pos p; omega
  | succ N ih =>
    intro p hp hbig t htb M hML hMS n₀ base a c a' c' v w hn hbase hGR hpw htw hA hA'
    have IH := Lib.hid ih
    clear ih
    obtain ⟨i0, hi, hz0, hz1, hz2⟩ := info_parts infoBind
    have hw := wf_low hpw
    generalize hr : p.ext t M = r
    rw [T.ext_eq] at hr
    have HR := Lib.hid hr
    clear hr
    have hlc : p.args.length ≤ c ∧ c ≤ maxLen := ⟨hA.1, hA.2.1⟩
    have hlc' : t.args.length ≤ c' ∧ c' ≤ maxLen := ⟨hA'.1, hA'.2.1⟩
    unfold maxLen at hlc hlc'
    obtain ⟨hl1, hl2⟩ := hlc
    obtain ⟨hl3, hl4⟩ := hlc'
    have hB2 : Below w.heap.size w ((w.alloc (tmCells p.head a p.args.length c)).alloc (tmCells t.head a' t.args.length c')) := ((Below.refl _ w).alloc (Nat.le_refl _) _).alloc (by simp) _
    have HG2 := Lib.hid (hGR.below (by omega) hB2)
    have HA := Lib.hid (hA.below (hB2.mono (by omega)))
    have HA' := Lib.hid (hA'.below (hB2.mono (by omega)))
    have HB2 := Lib.hid hB2
    have HTW := Lib.hid htw
    have HMS := Lib.hid hMS
    obtain ⟨av, cv, rfl, hIs⟩ := hGR.bs (by omega)
    have hlv : M.length ≤ cv ∧ cv ≤ maxLen := ⟨hIs.1, hIs.2.1⟩
    unfold maxLen at hlv
    obtain ⟨hlv1, hlv2⟩ := hlv
    have HI := Lib.hid ((hIs.below hB2).mono hB2.size)
    have h0 : ((w.alloc (tmCells p.head a p.args.length c)).alloc (tmCells t.head a' t.args.length c')).heap[w.heap.size]? = some (tmCells p.head a p.args.length c) := (Below.heap_alloc _ _ _ (by simp)).trans (heap_alloc_new w _)
    have h1 : ((w.alloc (tmCells p.head a p.args.length c)).alloc (tmCells t.head a' t.args.length c')).heap[w.heap.size + 1]? = some (tmCells t.head a' t.args.length c') := by have := heap_alloc_new (w.alloc (tmCells p.head a p.args.length c)) (tmCells t.head a' t.args.length c'); rwa [heap_alloc_size] at this
    have H0 := Lib.hid h0
    have H1 := Lib.hid h1
    clear hGR hA hA' hB2 hpw htw hMS hIs h0 h1
    by_cases hneg : p.head < 0
    · have hr := HR.out
      rw [if_pos hneg] at hr
      have HRV := Lib.hid hr
      clear hr HR
      have hv0 : (0 : Int) ≤ -1 - p.head := by omega
      have hwr : IntKind.i64.wrap (-1 - p.head) = -1 - p.head := IntWalk.i64_in _ (by omega)
      go_enter Try.func97, Try.ntmps97
      go_wp2
      have hsz : ((w.alloc (.cells #[.int .i64 p.head, .slice a p.args.length c] 25)).alloc (.cells #[.int .i64 t.head, .slice a' t.args.length c'] 25)).heap.size = w.heap.size + 1 + 1 := by simp
      generalize (w.alloc (.cells #[.int .i64 p.head, .slice a p.args.length c] 25)).alloc (.cells #[.int .i64 t.head, .slice a' t.args.length c'] 25) = wL at HG2 HA HA' HB2 H0 H1 HI hsz ⊢
      have LC := Lib.hid (show ∀ W, Below wL.heap.size wL W → W.cell? ⟨w.heap.size, 0, none⟩ = some (.int .i64 p.head) ∧ W.cell? ⟨w.heap.size + 1, 0, none⟩ = some (.int .i64 t.head) ∧ W.cell? ⟨w.heap.size + 1, 1, none⟩ = some (.slice a' t.args.length c') from fun W hW => by
        have e0 := (hW.block w.heap.size (by omega)).trans H0.out
        have e1 := (hW.block (w.heap.size + 1) (by omega)).trans H1.out
        refine ⟨?_, ?_, ?_⟩ <;> simp [World.cell?, e0, e1])
      go_loopw [8] (fun i wr => GaI M (-1 - p.head) wL i wr) (fun i _ => M.length - (intOf i).toNat)
      case atStart => exact ⟨0, Nat.zero_le _, rfl, rfl, Below.refl _ _⟩
      case round =>
        obtain ⟨k, hk, rfl, hbk, hB⟩ := hrel
        have HBK := Lib.hid hbk
        have HB := Lib.hid hB
        have hbz := hB.size
        clear hbk hB
        by_cases hlt : k < M.length
        · have hk0 : (0 : Int) ≤ (k : Int) := Int.natCast_nonneg _
          have hk1 : (k : Int) < (M.length : Int) := by omega
          obtain ⟨b, o, x, u, au, cu, rfl, hbn, hsk, hxw, huw, hc0, hc1, hc2, hAu⟩ := (HI.out.below HB.out).elem (i := k) hlt
          obtain ⟨d0, d1, d2⟩ := LC.out wr HB.out
          have hbw : b < wr.heap.size := by omega
          have HSK := Lib.hid hsk
          have hxb := wf_low hxw
          have HAU := Lib.hid hAu
          have HUW := Lib.hid huw
          clear hsk hxw hAu huw
          by_cases hxv : x = -1 - p.head
          · have hxe : (x == -1 - p.head) = true := by simpa using hxv
            obtain ⟨f1, f2⟩ := ofS_found HBK.out HSK.out hxv
            have hus : u.size ≤ 1000000000000 := HMS.out _ (List.mem_of_getElem? HSK.out)
            have hr := HRV.out
            rw [f1, if_pos rfl, f2] at hr
            simp only [] at hr
            have HRR := Lib.hid hr
            clear f1 f2 hr HRV hxv
            go_wp2_with fail
            go_still_tail 8, (by kernel_rfl)
            change wpList _ _ _ _ _ wr.drew
            have hD1 : Below wr.heap.size wr wr.drew := (Below.refl _ _).drew
            have hc1' := (hD1.cell (p := ⟨b, o + k * 3 + 1, none⟩) hbw).trans hc1
            have hc2' := (hD1.cell (p := ⟨b, o + k * 3 + 2, none⟩) hbw).trans hc2
            obtain ⟨e0, e1, e2⟩ := LC.out wr.drew HB.out.drew
            clear hD1
            go_wp2_with fail
            clear hc1' hc2' e0 e1 e2
            have CS := Lib.hid (show ∀ W, Below wr.heap.size wr W → Calls Try.prog 19 #[tm u.head au u.args.length cu, tm t.head a' t.args.length c'] W fun e w' => e = .returned (.bool (decide (T.cmp u t = 0))) ∧ Below W.heap.size W w' from fun W hW => refSame_any u t hus htb wL.heap.size au cu a' c' W (by have := hW.size; omega) (HAU.out.below (hW.mono hbz)) ((HA'.out.mono (by omega)).below (HB.out.trans (hW.mono hbz))))
            have KP := Lib.hid (show ∀ W, Below wr.heap.size wr W → W.cell? ⟨b, o + k * 3 + 1, none⟩ = some (.int .i64 u.head) ∧ W.cell? ⟨b, o + k * 3 + 2, none⟩ = some (.slice au u.args.length cu) ∧ W.cell? ⟨w.heap.size + 1, 0, none⟩ = some (.int .i64 t.head) ∧ W.cell? ⟨w.heap.size + 1, 1, none⟩ = some (.slice a' t.args.length c') ∧ Below wr.heap.size wr W from fun W hW => by
              obtain ⟨_, q1, q2⟩ := LC.out W (HB.out.trans (hW.mono hbz))
              exact ⟨(hW.cell hbw).trans hc1, (hW.cell hbw).trans hc2, q1, q2, hW⟩)
            obtain ⟨e0, e1, e2, e3, _⟩ := KP.out wr.drew (Below.refl _ _).drew
            clear hc0 hc1 hc2 d0 d1 d2
            go_cut [6, 7] from 30 to 37 (fun v6 v7 wx => v6 = .slice (some ⟨b, o, none⟩) M.length cv ∧ v7 = .bool (decide (T.cmp u t = 0)) ∧ Below wr.heap.size wr wx)
            case first =>
              refine wp_region_noPanic ?_
              go_region_held3 (fun w' => w'.cell? ⟨b, o + k * 3 + 1, none⟩ = some (.int .i64 u.head) ∧ w'.cell? ⟨b, o + k * 3 + 2, none⟩ = some (.slice au u.args.length cu) ∧ w'.cell? ⟨w.heap.size + 1, 0, none⟩ = some (.int .i64 t.head) ∧ w'.cell? ⟨w.heap.size + 1, 1, none⟩ = some (.slice a' t.args.length c') ∧ Below wr.heap.size wr w')
                (first
                  | exact KP.out _ hB
                  | exact KP.out _ (Below.refl _ _).drew
                  | exact KP.out _ ((Below.refl _ _).drew).drew)
                (first
                  | (go_at_call 19; refine (CS.out _ (‹_ ∧ _ ∧ _ ∧ _ ∧ Below wr.heap.size wr _›.2.2.2.2)).mono ?_; rintro e u2 ⟨rfl, hu⟩; have hB := bl_call (‹_ ∧ _ ∧ _ ∧ _ ∧ Below wr.heap.size wr _›.2.2.2.2) hu; have hfin := hB))
              all_goals
                refine NoPanic.normal ?_
                go_wp2_with fail
                go_meet
                exact ⟨rfl, rfl, hfin⟩
            case rest =>
            obtain ⟨rfl, rfl, hb3⟩ := hcut
            have HB3 := Lib.hid (HB.out.trans (hb3.mono hbz))
            clear hb3 CS KP e0 e1 e2 e3
            by_cases qs : T.cmp u t = 0
            · rw [decide_eq_true qs]
              have hss : sameB u t = true := (sameB_iff _ _).2 (T.cmp_zero.1 qs)
              have hr := HRR.out
              rw [hss, if_pos rfl] at hr
              subst hr
              clear qs hss HRR
              go_wp2
              refine bodyPost_ret (v := .tuple #[.slice (some ⟨b, o, none⟩) M.length cv, .bool true]) (by simp [results, Try.results97, go_sem]) rfl ?_
              exact ⟨(keepT_of_below HB2.out hbase).trans (keepT_of_below HB3.out (by omega)), .inl ⟨M, _, rfl, rfl, HG2.out.below (by omega) HB3.out⟩⟩
            · rw [decide_eq_false qs]
              have hss : ¬ sameB u t = true := fun h => qs (T.cmp_zero.2 ((sameB_iff _ _).1 h))
              have hr := HRR.out
              rw [if_neg hss] at hr
              subst hr
              clear qs hss HRR
              go_wp2
              refine bodyPost_ret (v := .tuple #[.slice (some ⟨b, o, none⟩) M.length cv, .bool false]) (by simp [results, Try.results97, go_sem]) rfl ?_
              exact ⟨(keepT_of_below HB2.out hbase).trans (keepT_of_below HB3.out (by omega)), .inr ⟨rfl, _, _, _, rfl⟩⟩
          · have hxe : (x == -1 - p.head) = false := by simpa using hxv
            have HXV := Lib.hid hxv
            clear hxv
            go_wp2_with fail
            go_still_tail 8, (by kernel_rfl)
            change wpList _ _ _ _ _ wr.drew
            go_wp2
            go_roundw
            case rel => exact ⟨k + 1, by omega, by go_num, bnd_take HBK.out HSK.out HXV.out, HB.out.drew⟩
            case measure => simp [intOf]; omega
        · obtain rfl : k = M.length := by omega
          have hb := HBK.out
          rw [List.take_length] at hb
          have hr := HRV.out
          rw [hb] at hr
          simp only [Bool.false_eq_true, if_false] at hr
          subst hr
          obtain ⟨d0, d1, d2⟩ := LC.out wr HB.out
          obtain ⟨xs, hrow, hbv⟩ := HG2.out.below (by omega) HB.out
          have HBV := Lib.hid hbv
          have hbw : base ≤ wr.heap.size := by omega
          have hkm : M.length + 1 ≤ maxLen := by unfold maxLen; omega
          clear hbv hb
          go_wp2_with (first | (at_builtin; refine wpList_append_lies _ (by rfl) _ _ 22 (by rfl) base 43 i0 _ 3 40 Try.underlying22 hi hz0 hz1 hz2 rfl (by omega) _ _ xs (by rfl) (hrow.alloc _) ⟨wr.heap.size, 0, none⟩ 1 1 [.int .i64 (-1 - p.head), .int .i64 t.head, .slice a' t.args.length c'] (by rfl) (by rfl) (World.news_of_block (cs := #[.int .i64 (-1 - p.head), .int .i64 t.head, .slice a' t.args.length c']) (t := 43) (fr := (0, 0)) (heap_alloc_new wr _)) (by simp [Value.oneCell']) (by omega) hkm (by omega) (by simp; omega) (wr.heap.size + 1) (by simp) ?_; intro g cap w8 hown8 hgrow8 hat8 hlt8) | go_in)
          have hB8 := (((HB.out.mono (by omega)).alloc (by omega) (.cells #[.int .i64 (-1 - p.head), .int .i64 t.head, .slice a' t.args.length c'] 43)).trans (keepT_grown (base := base) (hrow.alloc _) hgrow8 (by simp; omega)).1 : Below base wL w8)
          have hwB : Below base wr w8 := ((Below.refl base wr).alloc (by omega) _).trans (keepT_grown (base := base) (hrow.alloc _) hgrow8 (by simp; omega)).1
          refine bodyPost_ret (v := .tuple #[.slice (some ⟨g, 0, none⟩) (M.length + 1) cap, .bool true]) (by simp [results, Try.results97, go_sem]) rfl ?_
          refine ⟨(keepT_of_below HB2.out hbase).trans ((keepT_of_below HB.out (by omega)).trans ((keepT_of_below ((Below.refl _ wr).alloc (Nat.le_refl _) _) (by omega)).trans (keepT_grown (hrow.alloc _) hgrow8 (by simp; omega)))), .inl ⟨_, _, rfl, rfl, _, by simpa using hown8, ?_⟩⟩
          exact BVals.snoc (WalkArith.wf_i64 ⟨by omega, by omega⟩) HTW.out (isArgsp_lt.2 (HA'.out.below (hB8.mono hn))) (HBV.out.keep (fun b hb => hwB.block b (by omega)) (fun _ h => h))
    · have hr := HR.out
      rw [if_neg hneg] at hr
      have HR2 := Lib.hid hr
      clear hr HR
      by_cases hh : p.head = t.head
      case neg =>
        have hne : (p.head == t.head) = false := by simpa using hh
        have hr : r = none := by rw [← HR2.out, if_neg (fun h => hh h.1)]
        subst hr
        go_enter Try.func97, Try.ntmps97
        go_wp2
        refine bodyPost_ret (v := .tuple #[.slice av M.length cv, .bool false]) (by simp [results, Try.results97, go_sem]) rfl ?_
        exact ⟨keepT_of_below HB2.out hbase, .inr ⟨rfl, _, _, _, rfl⟩⟩
      have HH := Lib.hid hh
      rw [hh] at HB2 HG2 HA HA' HI H0 H1 hneg ⊢
      clear hh
      by_cases hl : p.args.length = t.args.length
      case neg =>
        have hne : ((p.args.length : Int) == (t.args.length : Int)) = false := by rw [beq_eq_false_iff_ne]; intro e; exact hl (by omega)
        have hnb : ((p.args.length : Int) != (t.args.length : Int)) = true := by rw [bne, hne]; rfl
        have hr : r = none := by rw [← HR2.out, if_neg (fun h => hl h.2)]
        subst hr
        clear hl
        go_enter Try.func97, Try.ntmps97
        go_wp2
        refine bodyPost_ret (v := .tuple #[.slice av M.length cv, .bool false]) (by simp [results, Try.results97, go_sem]) rfl ?_
        exact ⟨keepT_of_below HB2.out hbase, .inr ⟨rfl, _, _, _, rfl⟩⟩
      have hr : T.exts p.args t.args M = r := by rw [← HR2.out, if_pos ⟨HH.out, hl⟩]
      have HR3 := Lib.hid hr
      have HL := Lib.hid hl
      rw [hl] at HB2 HG2 HA HA' HI H0 H1 hl1 ⊢
      clear hr hl HR2
      go_enter Try.func97, Try.ntmps97
      go_wp2
      have hsz : ((w.alloc (.cells #[.int .i64 t.head, .slice a t.args.length c] 25)).alloc (.cells #[.int .i64 t.head, .slice a' t.args.length c'] 25)).heap.size = w.heap.size + 1 + 1 := by simp
      generalize (w.alloc (.cells #[.int .i64 t.head, .slice a t.args.length c] 25)).alloc (.cells #[.int .i64 t.head, .slice a' t.args.length c'] 25) = wL at HG2 HA HA' HB2 H0 H1 HI hsz ⊢
      go_loopw [2, 9, 10, 11] (fun s i _ _ wr => GbI n₀ base p.args t.args M wL s i wr) (fun _ i _ _ _ => t.args.length - (intOf i).toNat)
      case atStart => exact ⟨0, M, Nat.zero_le _, rfl, by simp [T.exts], HG2.out, keepT_of_below (Below.refl _ _) (by omega)⟩
      case round =>
        obtain ⟨k, M1, hk, rfl, hM1, hGR, hK⟩ := hrel
        have HM1 := Lib.hid hM1
        have HGR := Lib.hid hGR
        have HK := Lib.hid hK
        have hbz := hK.1.size
        have c0 : wr.cell? ⟨w.heap.size, 1, none⟩ = some (.slice a t.args.length c) := by
          have := (hK.2 _ _ _ H0.out).trans H0.out
          simp [World.cell?, this]
        have c1 : wr.cell? ⟨w.heap.size + 1, 1, none⟩ = some (.slice a' t.args.length c') := by
          have := (hK.2 _ _ _ H1.out).trans H1.out
          simp [World.cell?, this]
        clear hM1 hGR hK
        by_cases hlt2 : k < t.args.length
        · have hk0 : (0 : Int) ≤ (k : Int) := Int.natCast_nonneg _
          have hk2 : (k : Int) < (t.args.length : Int) := by omega
          have hbel : Below n₀ wL wr := HK.out.1.mono hn
          obtain ⟨b, o, p1, a1, c1', rfl, hbn, hp1, hpw1, hc1, hc2, hA1⟩ := (HA.out.below hbel).elem (i := k) (by rw [HL.out]; exact hlt2)
          obtain ⟨b2, o2, t1, a2, c2, rfl, hbn2, ht1, htw1, hd1, hd2, hA2⟩ := (HA'.out.below hbel).elem (i := k) hlt2
          have HP1 := Lib.hid hp1
          have HT1' := Lib.hid ht1
          have hsz1 := sizes_take_lt hp1
          have hszt := sizes_take_lt ht1
          have hpe := T.size_eq p
          have hte := T.size_eq t
          have hln := T.exts_len _ _ _ _ HM1.out
          have hbw : b < wr.heap.size := by omega
          have hbw2 : b2 < wr.heap.size := by omega
          have CALL := Lib.hid (IH.out p1 (by omega) (by omega) t1 (by omega) M1 (by omega) (fun q hq => by
              rcases hln.2 q hq with h | h
              · exact HMS.out q h
              · have h3 := T.sizes_append (t.args.take k) (t.args.drop k)
                rw [List.take_append_drop] at h3
                omega) n₀ base a1 c1' a2 c2 u2 wr.drew hn (by show base ≤ wr.heap.size; omega) (HGR.out.below (by omega) (Below.refl _ _).drew) hpw1 htw1 (hA1.below (Below.refl _ _).drew) (hA2.below (Below.refl _ _).drew))
          clear hp1 ht1 hsz1 hszt hpe hte hln hA1 hA2 hpw1 htw1 hbel
          go_wp2_with fail
          go_cut [10, 11] from 68 to 82 (fun v10 v11 wx => Gat2 n₀ base (p1.ext t1 M1) wr v10 v11 wx)
          case first =>
            refine wp_region_noPanic ?_
            go_region_law (go_simp; go_at_call 97; refine CALL.out.mono ?_; rintro e w3 ⟨hk3, h3⟩; obtain ⟨vq, bq, rfl⟩ : ∃ vq bq, e = .returned (.tuple #[vq, .bool bq]) := gpost_form ⟨hk3, h3⟩)
            all_goals
              refine NoPanic.normal ?_
              go_wp2_with fail
              go_meet
              exact ⟨_, hk3, h3, rfl⟩
          case rest =>
          obtain ⟨e, hk3, h3, he⟩ := hcut
          generalize wc = w3 at *
          have hst := T.exts_take p.args t.args k p1 t1 M HP1.out HT1'.out
          rw [HM1.out] at hst
          have HST := Lib.hid hst
          have HK3 := Lib.hid (HK.out.trans ((keepT_of_below (Below.refl _ _).drew (by omega)).trans hk3))
          have hz3 := hk3.1.size
          have hz3' : wr.heap.size ≤ w3.heap.size := hz3
          clear hst hk3 CALL c0 c1 hc1 hc2 hd1 hd2 hz3
          rcases h3 with ⟨M2, v2, hM2, rfl, hG2⟩ | ⟨hM2, a3, n3, c3, rfl⟩ <;> cases he
          · obtain ⟨a3, c3, rfl, _⟩ := hG2.bs (by omega)
            have HM2 := Lib.hid hM2
            have HGG := Lib.hid hG2
            clear hM2 hG2
            go_wp2
            go_roundw
            case rel => exact ⟨k + 1, M2, by have := HL.out; omega, by go_num, HST.out.trans HM2.out, HGG.out, HK3.out⟩
            case measure => simp [intOf]; omega
          · have hr := T.exts_none p.args t.args (k + 1) M (HST.out.trans hM2)
            rw [HR3.out] at hr
            subst hr
            obtain ⟨a4, c4, rfl, _⟩ := HGR.out.bs (by omega)
            clear hM2 HR3
            go_wp2
            refine bodyPost_ret (v := .tuple #[.slice a4 M1.length c4, .bool false]) (by simp [results, Try.results97, go_sem]) rfl ?_
            exact ⟨(keepT_of_below HB2.out hbase).trans HK3.out, .inr ⟨rfl, _, _, _, rfl⟩⟩
        · obtain rfl : k = t.args.length := by have := HL.out; omega
          have hM1 := HM1.out
          rw [List.take_length, show p.args.take t.args.length = p.args from by rw [← HL.out, List.take_length], HR3.out] at hM1
          subst hM1
          obtain ⟨a4, c4, rfl, _⟩ := HGR.out.bs (by omega)
          clear HM1 HR3
          go_wp2
          refine bodyPost_ret (v := .tuple #[.slice a4 M1.length c4, .bool true]) (by simp [results, Try.results97, go_sem]) rfl ?_
          exact ⟨(keepT_of_below HB2.out hbase).trans HK.out, .inl ⟨M1, _, rfl, rfl, HGR.out⟩⟩

end Go.Proofs.Ytcbjnfdhghhgeaa
