/- Kbo's scale: contract of put. -/
import Derived.Test.YtleohdddaadbeaaGreatKsc
import Derived.StillTailTactics
import Derived.IntWalk
namespace Go.Proofs.YtleohdddaadbeaaGreat
set_option linter.unusedVariables false
set_option linter.unusedSimpArgs false
open Go.RowKit Go.Maps

def ScPost (Bs M : Nat) (g : Sg) (ga : Option Addr) (gc : Nat) (S : Sds) (w : World) (e : Ending) (w' : World) : Prop := e = .returned (.tuple #[]) ∧ Scl w' Bs M g ga gc S ∧ Sfr Bs M w w'

theorem hdsL_take' {ts : List T} {k : Nat} {s : T} (h : ts[k]? = some s) : T.hdsL (ts.take (k + 1)) = T.hdsL (ts.take k) ++ s.hds := by
  obtain ⟨hi, e⟩ := List.getElem?_eq_some_iff.1 h
  rw [List.take_succ_eq_append_getElem hi, e]
  have ap : ∀ (a b : List T), T.hdsL (a ++ b) = T.hdsL a ++ T.hdsL b := fun a b => by
    induction a with
    | nil => rfl
    | cons t a ih => simp [T.hdsL, ih]
  rw [ap]; simp [T.hdsL]

def PtI (Bs M : Nat) (g : Sg) (ga : Option Addr) (gc : Nat) (pos : Bool) (S : Sds) (t : T) (W2 : World) (i : Value) (wr : World) : Prop :=
  ∃ k : Nat, k ≤ t.args.length ∧ i = .int .i64 (k : Nat) ∧ Scl wr Bs M g ga gc (pl pos S (t.head :: T.hdsL (t.args.take k))) ∧ Sfr Bs M W2 wr

set_option maxRecDepth 100000 in
set_option maxHeartbeats 4000000 in
theorem scPut_any (g : Sg) (hr : rightG g = true) (pos : Bool) : ∀ (N : Nat) (t : T), t.size ≤ N → fitsT g t = true → bad (T.subs 1 t) = false → ∀ (S : Sds), lenS S + t.size ≤ 1000000 →
    ∀ (n₀ : Nat) (ga : Option Addr) (gc : Nat) (a : Option Addr) (c Bs M : Nat) (w : World), n₀ ≤ Bs → n₀ ≤ M → n₀ ≤ w.heap.size → IsSg n₀ w g ga gc → (Lit.int .i64 t.head).wf = true → IsArgs n₀ w t.args a c → Scl w Bs M g ga gc S →
    Calls Tryz.prog 95 #[.pointer (some ⟨Bs, 0, none⟩), tm t.head a t.args.length c, .int .i64 (sg pos)] w (ScPost Bs M g ga gc (pl pos S t.hds) w) := by
  intro N
  induction N with
  | zero => intro t ht; have := T.size_pos t; omega
  | succ N ih =>
    intro t ht hft hbd S hlen n₀ ga gc a c Bs M w hnB hnM hn hG hwf hA hS
    have IH := Lib.hid ih
    clear ih
    have hsg := sg_cases pos
    have hwb := wS_bound hr (fun v hv => (hS.ok v hv).1)
    have hcb := cS_bound S t.head
    have hsp := T.size_pos t
    have hBl := hS.lt
    have hMl := hS.map.lt
    have hne := hS.ne
    obtain ⟨W1, hW1⟩ : ∃ W1, w.alloc (tmCells t.head a t.args.length c) = W1 := ⟨_, rfl⟩
    have hF1 : Below w.heap.size w W1 := by rw [← hW1]; exact (Below.refl _ w).alloc (Nat.le_refl _) _
    have LT := show Later (fun X => Vc w.heap.size t.head a t.args.length c X) W1 from by rw [← hW1]; exact later_var w _ _ _ _
    obtain ⟨hv0, hv1⟩ := LT.now
    have hS1 := hS.later hF1
    have hb1 : w.heap.size < W1.heap.size := by rw [← hW1]; simp
    have hbB : w.heap.size ≠ Bs := by omega
    have hbM : w.heap.size ≠ M := by omega
    by_cases q1 : t.head < 0
    · have hargs := good_var hbd q1
      have hhd : t.hds = [t.head] := by rw [T.hds_eq, hargs]; rfl
      rw [hhd]
      have HS1 := Lib.hid hS1
      have HF1 := Lib.hid hF1
      have HV := Lib.hid (hwf_of hwf)
      have hmul : IntKind.i64.wrap (sg pos * 1) = sg pos := by rw [Int.mul_one]; exact IntWalk.i64_in _ (by omega)
      have hadd : IntKind.i64.wrap (wS g S + sg pos) = wS g S + sg pos := IntWalk.i64_in _ (by omega)
      have hadd2 : IntKind.i64.wrap (cS S t.head + sg pos) = cS S t.head + sg pos := IntWalk.i64_in _ (by omega)
      obtain ⟨c0, c1, c2, fz, dm, ok⟩ := hS1
      clear hA hG hS LT dm ok hF1 hwf hargs hhd
      go_enter Tryz.func95, Tryz.ntmps95
      go_wp2
      obtain ⟨m0, m1, m2, m3, m4⟩ := HS1.out.mid (wS g S + sg pos)
      have hv0' : (W1.setCell ⟨Bs, 1, none⟩ (.int .i64 (wS g S + sg pos))).cell? ⟨w.heap.size, 0, none⟩ = some (.int .i64 t.head) := by
        rw [World.cell?_setCell_other _ _ _ _ (by intro q; simp at q)]; exact hv0
      have HF2 := Lib.hid (show Sfr Bs M w (W1.setCell ⟨Bs, 1, none⟩ (.int .i64 (wS g S + sg pos))) from (Sfr.of_below HF1.out).trans (Sfr.of_set Bs M W1 1 _))
      have hMs : M < (W1.setCell ⟨Bs, 1, none⟩ (.int .i64 (wS g S + sg pos))).heap.size := m4.lt
      have hBs2 : Bs < (W1.setCell ⟨Bs, 1, none⟩ (.int .i64 (wS g S + sg pos))).heap.size := World.block_lt_of_cell? _ ⟨Bs, 0, none⟩ m0
      have HQ := Lib.hid q1
      have HD4 := Lib.hid m4
      have lk1 := m4.look HV.out q1
      have HE := Lib.hid (show (W1.setCell ⟨Bs, 1, none⟩ (.int .i64 (wS g S + sg pos))) = (W1.setCell ⟨Bs, 1, none⟩ (.int .i64 (wS g S + sg pos))) from rfl)
      clear m4 c0 c1 c2 fz hv0 hv1 hW1 hmul hadd
      generalize hW2 : W1.setCell ⟨Bs, 1, none⟩ (.int .i64 (wS g S + sg pos)) = W2 at *
      have HW2 := Lib.hid hW2
      clear hW2 HE
      have lk2 : (Instr.lookup 76 (.map (some M)) (.int .i64 t.head) false).run Tryz.prog W2.drew = .ok (.int .i64 (cS S t.head)) W2.drew := (HD4.out.kept (W' := W2.drew) rfl).look HV.out HQ.out
      go_still_tail 9, (by kernel_rfl)
      change wpList _ _ _ _ _ W2.drew
      obtain ⟨w3, hup, hM3, hg3⟩ := (HD4.out.kept (W' := W2.drew) rfl).put HV.out HQ.out pos (by omega)
      have HM3 := Lib.hid hM3
      have HG3 := Lib.hid hg3
      clear hM3 hg3
      go_wp2
      refine bodyPost_ret (v := .tuple #[]) (by simp [results, Tryz.results95, go_sem]) rfl ?_
      refine ⟨rfl, HS1.out.var HQ.out HV.out pos ?_ HM3.out, ?_⟩
      · rw [HW2.out]; exact HG3.out.block Bs hBs2 (fun e => hne (Option.some.inj e))
      · exact HF2.out.drew.trans (Sfr.of_grown HG3.out)
    · have hks : t.head.toNat < g.length := by
        have h1 := hft
        rw [fitsT_eq] at h1
        simp only [q1, decide_false, Bool.false_or, Bool.and_eq_true, armOk] at h1
        obtain ⟨h1, _⟩ := h1
        split at h1
        · rename_i y hy; exact (List.getElem?_eq_some_iff.1 hy).1
        · simp at h1
      have hin : inS g t.head := .inr hks
      have hwo := wo_bound hr hin
      obtain ⟨b, o, x, rfl, hbn, hsx, hxw, hc0, hc1, hc2, hc3⟩ := hG.elem (i := t.head.toNat) hks
      have hwx : wo g t.head = x.wt := by unfold wo; rw [if_neg q1, hsx]
      rw [hwx] at hwo
      have h0 : 0 ≤ t.head := by omega
      have h1 : t.head < (g.length : Int) := by omega
      have hsgm : -1000 ≤ sg pos * x.wt ∧ sg pos * x.wt ≤ 1000 := by rcases hsg with e | e <;> rw [e] <;> omega
      have hmul : IntKind.i64.wrap (sg pos * x.wt) = sg pos * x.wt := IntWalk.i64_in _ (by omega)
      have hadd : IntKind.i64.wrap (wS g S + sg pos * x.wt) = wS g S + sg pos * x.wt := IntWalk.i64_in _ (by omega)
      have hlg : g.length ≤ gc ∧ gc ≤ maxLen := ⟨hG.1, hG.2.1⟩
      unfold maxLen at hlg
      obtain ⟨hl3, hl4⟩ := hlg
      have hx2 : W1.cell? ⟨b, o + t.head.toNat * 4 + 2, none⟩ = some (.int .i64 x.wt) := (hF1.cell (p := ⟨b, _, none⟩) (by show b < w.heap.size; omega)).trans hc2
      have hS2 := hS1.sym h0 hin (hwf_of hwf) pos
      rw [hwx] at hS2
      have hF2 := (Sfr.of_below (Bs := Bs) (M := M) hF1).trans (Sfr.of_set Bs M W1 1 (.int .i64 (wS g S + sg pos * x.wt)))
      have hargs := fits_args hft hbd
      have HAR := Lib.hid (fun (s : T) (hs : s ∈ t.args) => hargs s hs)
      have HS1 := Lib.hid hS1
      have HS2 := Lib.hid hS2
      have HF1 := Lib.hid hF1
      have HF2 := Lib.hid hF2
      have HA := Lib.hid hA
      have HG := Lib.hid hG
      obtain ⟨c0, c1, c2, fz, dm, ok⟩ := hS1
      clear hA hG hS LT dm ok hF1 hwf hargs hS2 hF2 hft hbd hc0 hc1 hc2 hc3 hsx hxw hwx hsgm
      go_enter Tryz.func95, Tryz.ntmps95
      go_wp2
      clear hW1
      go_still_tail 18, (by kernel_rfl)
      change wpList _ _ _ _ _ W1.drew
      go_wp2
      have hW2s : Scl (W1.setCell ⟨Bs, 1, none⟩ (.int .i64 (wS g S + sg pos * x.wt))).drew Bs M g (some ⟨b, o, none⟩) gc (pl pos S [t.head]) := HS2.out.kept rfl rfl
      have hW2f : Sfr Bs M w (W1.setCell ⟨Bs, 1, none⟩ (.int .i64 (wS g S + sg pos * x.wt))).drew := HF2.out.drew
      have hW2v : (W1.setCell ⟨Bs, 1, none⟩ (.int .i64 (wS g S + sg pos * x.wt))).drew.cell? ⟨w.heap.size, 1, none⟩ = some (.slice a t.args.length c) := by
        show (W1.setCell ⟨Bs, 1, none⟩ (.int .i64 (wS g S + sg pos * x.wt))).cell? ⟨w.heap.size, 1, none⟩ = _
        rw [World.cell?_setCell_other _ _ _ _ (by intro q; simp at q <;> omega)]; exact hv1
      have hW2b : w.heap.size < (W1.setCell ⟨Bs, 1, none⟩ (.int .i64 (wS g S + sg pos * x.wt))).drew.heap.size := by
        show w.heap.size < (W1.setCell ⟨Bs, 1, none⟩ (.int .i64 (wS g S + sg pos * x.wt))).heap.size
        simpa using hb1
      clear HS1 HS2 HF1 HF2 c0 c1 c2 fz hv0 hv1 hx2 hmul hadd
      generalize (W1.setCell ⟨Bs, 1, none⟩ (.int .i64 (wS g S + sg pos * x.wt))).drew = W2 at *
      have HW2 := Lib.hid hW2s
      have HF2 := Lib.hid hW2f
      have HN := Lib.hid (show n₀ ≤ w.heap.size ∧ n₀ ≤ Bs ∧ n₀ ≤ M from ⟨hn, hnB, hnM⟩)
      have hlc : t.args.length ≤ c ∧ c ≤ maxLen := ⟨HA.out.1, HA.out.2.1⟩
      unfold maxLen at hlc
      obtain ⟨hl1, hl2⟩ := hlc
      clear hW2s hW2f
      go_loopw [49] (fun i wr => PtI Bs M g (some ⟨b, o, none⟩) gc pos S t W2 i wr) (fun i _ => t.args.length - (intOf i).toNat)
      case atStart => exact ⟨0, Nat.zero_le _, rfl, by simpa [T.hdsL] using HW2.out, Sfr.refl _ _ _⟩
      case round =>
        obtain ⟨k, hk, rfl, hSk, hFk⟩ := hrel
        have HSk := Lib.hid hSk
        have HFk := Lib.hid hFk
        have hvk : wr.cell? ⟨w.heap.size, 1, none⟩ = some (.slice a t.args.length c) := (hFk.cell hW2b hbB hbM).trans hW2v
        have hBw : Below n₀ w wr := (HF2.out.trans hFk).below HN.out.2.1 HN.out.2.2 HN.out.1
        have hszr := hFk.size
        by_cases hlt : k < t.args.length
        · obtain ⟨bb, oo, s, a', c', rfl, hbbn, hs, hswf, hcs1, hcs2, hA'⟩ := (HA.out.below hBw).elem (i := k) hlt
          have hk0 : (0 : Int) ≤ (k : Int) := Int.natCast_nonneg _
          have hk1 : (k : Int) < (t.args.length : Int) := by omega
          have hsm := List.mem_of_getElem? hs
          obtain ⟨hfs, hbs⟩ := HAR.out s hsm
          have hss : s.size ≤ N := by
            have h1 := T.size_lt_of_mem hs
            have h2 := T.size_eq t
            omega
          have hls : lenS (pl pos S (t.head :: T.hdsL (t.args.take k))) + s.size ≤ 1000000 := by
            rw [lenS_pl, List.length_cons, T.hdsL_length]
            have h1 := T.sizes_take hs
            have h2 := T.size_eq t
            have h3 := T.sizes_append (t.args.take (k + 1)) (t.args.drop (k + 1))
            rw [List.take_append_drop] at h3
            omega
          have hcall := IH.out s hss hfs hbs _ hls n₀ (some ⟨b, o, none⟩) gc a' c' Bs M wr HN.out.2.1 HN.out.2.2 (Nat.le_trans HN.out.1 (by omega)) (HG.out.below hBw) hswf hA' hSk
          rw [pl_pl, List.cons_append, ← hdsL_take' hs] at hcall
          have HCALL := Lib.hid hcall
          have hbb : bb < wr.heap.size := by omega
          clear hcall hA' hs hsm hSk hFk hBw hls hss
          go_wp2_with fail
          refine HCALL.out.mono ?_
          rintro e w5 ⟨rfl, hS5, hF5⟩
          have HS5 := Lib.hid hS5
          have HF5 := Lib.hid (HFk.out.trans hF5)
          clear hS5 hF5
          go_wp2
          go_roundw
          case rel => exact ⟨k + 1, by omega, by go_num, HS5.out, HF5.out⟩
          case measure => simp [intOf]; omega
        · obtain rfl : k = t.args.length := by omega
          clear hSk hFk hBw
          go_wp2
          refine bodyPost_end (v := .tuple #[]) (by simp [results, Tryz.results95, go_sem]) rfl ?_
          refine ⟨rfl, ?_, HF2.out.trans HFk.out⟩
          have := HSk.out
          rw [List.take_length, ← T.hds_eq] at this
          exact this

end Go.Proofs.YtleohdddaadbeaaGreat
