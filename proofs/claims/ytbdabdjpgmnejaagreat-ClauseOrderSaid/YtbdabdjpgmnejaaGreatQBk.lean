/- QBk: joined of Kpt, Kdc, Kcp, Kb4. -/
import Derived.Test.YtbdabdjpgmnejaaGreatQBj
import Derived.StillTailTactics
import Derived.IntWalk
import Derived.Test.YtbdabdjpgmnejaaGreatQBe
import Derived.Test.YtbdabdjpgmnejaaGreatQBi
/- Kbo's scale: contract of put. -/
namespace Go.Proofs.YtbdabdjpgmnejaaGreat
set_option linter.unusedVariables false
set_option linter.unusedSimpArgs false
open Go.RowKit Go.Maps

def ScPost (Bs M : Nat) (g : Sg) (ga : Option Addr) (gc : Nat) (S : Sds) (w : World) (e : Ending) (w' : World) : Prop := e = .returned (.tuple #[]) ∧ Scl w' Bs M g ga gc S ∧ Sfr Bs M w w'

theorem hdsL_take' {ts : List T} {k : Nat} {s : T} (h : ts[k]? = some s) : T.hdsL (ts.take (k + 1)) = T.hdsL (ts.take k) ++ s.hds := by
  obtain ⟨hi, e⟩ := List.getElem?_eq_some_iff.1 h
  rw [List.take_succ_eq_append_getElem hi, e]
  have ap : ∀ (a b : List T), T.hdsL (a ++ b) = T.hdsL a ++ T.hdsL b := fun a b => by
    induction a with
    | nil => rfl
    | cons t a ih => simp [T.hdsL, ih]
  rw [ap]; simp [T.hdsL]

def PtI (Bs M : Nat) (g : Sg) (ga : Option Addr) (gc : Nat) (pos : Bool) (S : Sds) (t : T) (W2 : World) (i : Value) (wr : World) : Prop :=
  ∃ k : Nat, k ≤ t.args.length ∧ i = .int .i64 (k : Nat) ∧ Scl wr Bs M g ga gc (pl pos S (t.head :: T.hdsL (t.args.take k))) ∧ Sfr Bs M W2 wr

set_option maxRecDepth 100000 in
set_option maxHeartbeats 4000000 in
theorem scPut_any (g : Sg) (hr : rightG g = true) (pos : Bool) : ∀ (N : Nat) (t : T), t.size ≤ N → fitsT g t = true → bad (T.subs 1 t) = false → ∀ (S : Sds), lenS S + t.size ≤ 1000000 →
    ∀ (n₀ : Nat) (ga : Option Addr) (gc : Nat) (a : Option Addr) (c Bs M : Nat) (w : World), n₀ ≤ Bs → n₀ ≤ M → n₀ ≤ w.heap.size → IsSg n₀ w g ga gc → (Lit.int .i64 t.head).wf = true → IsArgs n₀ w t.args a c → Scl w Bs M g ga gc S →
    Calls Tryz.prog 172 #[.pointer (some ⟨Bs, 0, none⟩), tm t.head a t.args.length c, .int .i64 (sg pos)] w (ScPost Bs M g ga gc (pl pos S t.hds) w) := by
  intro N
  induction N with
  | zero => intro t ht; have := T.size_pos t; omega
  | succ N ih =>
    intro t ht hft hbd S hlen n₀ ga gc a c Bs M w hnB hnM hn hG hwf hA hS
    have IH := Lib.hid ih
    clear ih
    have hsg := sg_cases pos
    have hwb := wS_bound hr (fun v hv => (hS.ok v hv).1)
    have hcb := cS_bound S t.head
    have hsp := T.size_pos t
    have hBl := hS.lt
    have hMl := hS.map.lt
    have hne := hS.ne
    obtain ⟨W1, hW1⟩ : ∃ W1, w.alloc (tmCells t.head a t.args.length c) = W1 := ⟨_, rfl⟩
    have hF1 : Below w.heap.size w W1 := by rw [← hW1]; exact (Below.refl _ w).alloc (Nat.le_refl _) _
    have LT := show Later (fun X => Vc w.heap.size t.head a t.args.length c X) W1 from by rw [← hW1]; exact later_var w _ _ _ _
    obtain ⟨hv0, hv1⟩ := LT.now
    have hS1 := hS.later hF1
    have hb1 : w.heap.size < W1.heap.size := by rw [← hW1]; simp
    have hbB : w.heap.size ≠ Bs := by omega
    have hbM : w.heap.size ≠ M := by omega
    by_cases q1 : t.head < 0
    · have hargs := good_var hbd q1
      have hhd : t.hds = [t.head] := by rw [T.hds_eq, hargs]; rfl
      rw [hhd]
      have HS1 := Lib.hid hS1
      have HF1 := Lib.hid hF1
      have HV := Lib.hid (hwf_of hwf)
      have hmul : IntKind.i64.wrap (sg pos * 1) = sg pos := by rw [Int.mul_one]; exact IntWalk.i64_in _ (by omega)
      have hadd : IntKind.i64.wrap (wS g S + sg pos) = wS g S + sg pos := IntWalk.i64_in _ (by omega)
      have hadd2 : IntKind.i64.wrap (cS S t.head + sg pos) = cS S t.head + sg pos := IntWalk.i64_in _ (by omega)
      obtain ⟨c0, c1, c2, fz, dm, ok⟩ := hS1
      clear hA hG hS LT dm ok hF1 hwf hargs hhd
      go_enter Tryz.func172, Tryz.ntmps172
      go_wp2
      obtain ⟨m0, m1, m2, m3, m4⟩ := HS1.out.mid (wS g S + sg pos)
      have hv0' : (W1.setCell ⟨Bs, 1, none⟩ (.int .i64 (wS g S + sg pos))).cell? ⟨w.heap.size, 0, none⟩ = some (.int .i64 t.head) := by
        rw [World.cell?_setCell_other _ _ _ _ (by intro q; simp at q)]; exact hv0
      have HF2 := Lib.hid (show Sfr Bs M w (W1.setCell ⟨Bs, 1, none⟩ (.int .i64 (wS g S + sg pos))) from (Sfr.of_below HF1.out).trans (Sfr.of_set Bs M W1 1 _))
      have hMs : M < (W1.setCell ⟨Bs, 1, none⟩ (.int .i64 (wS g S + sg pos))).heap.size := m4.lt
      have hBs2 : Bs < (W1.setCell ⟨Bs, 1, none⟩ (.int .i64 (wS g S + sg pos))).heap.size := World.block_lt_of_cell? _ ⟨Bs, 0, none⟩ m0
      have HQ := Lib.hid q1
      have HD4 := Lib.hid m4
      have lk1 := m4.look HV.out q1
      have HE := Lib.hid (show (W1.setCell ⟨Bs, 1, none⟩ (.int .i64 (wS g S + sg pos))) = (W1.setCell ⟨Bs, 1, none⟩ (.int .i64 (wS g S + sg pos))) from rfl)
      clear m4 c0 c1 c2 fz hv0 hv1 hW1 hmul hadd
      generalize hW2 : W1.setCell ⟨Bs, 1, none⟩ (.int .i64 (wS g S + sg pos)) = W2 at *
      have HW2 := Lib.hid hW2
      clear hW2 HE
      have lk2 : (Instr.lookup 126 (.map (some M)) (.int .i64 t.head) false).run Tryz.prog W2.drew = .ok (.int .i64 (cS S t.head)) W2.drew := (HD4.out.kept (W' := W2.drew) rfl).look HV.out HQ.out
      go_still_tail 9, (by kernel_rfl)
      change wpList _ _ _ _ _ W2.drew
      obtain ⟨w3, hup, hM3, hg3⟩ := (HD4.out.kept (W' := W2.drew) rfl).put HV.out HQ.out pos (by omega)
      have HM3 := Lib.hid hM3
      have HG3 := Lib.hid hg3
      clear hM3 hg3
      go_wp2
      refine bodyPost_ret (v := .tuple #[]) (by simp [results, Tryz.results172, go_sem]) rfl ?_
      refine ⟨rfl, HS1.out.var HQ.out HV.out pos ?_ HM3.out, ?_⟩
      · rw [HW2.out]; exact HG3.out.block Bs hBs2 (fun e => hne (Option.some.inj e))
      · exact HF2.out.drew.trans (Sfr.of_grown HG3.out)
    · have hks : t.head.toNat < g.length := by
        have h1 := hft
        rw [fitsT_eq] at h1
        simp only [q1, decide_false, Bool.false_or, Bool.and_eq_true, armOk] at h1
        obtain ⟨h1, _⟩ := h1
        split at h1
        · rename_i y hy; exact (List.getElem?_eq_some_iff.1 hy).1
        · simp at h1
      have hin : inS g t.head := .inr hks
      have hwo := wo_bound hr hin
      obtain ⟨b, o, x, rfl, hbn, hsx, hxw, hc0, hc1, hc2, hc3⟩ := hG.elem (i := t.head.toNat) hks
      have hwx : wo g t.head = x.wt := by unfold wo; rw [if_neg q1, hsx]
      rw [hwx] at hwo
      have h0 : 0 ≤ t.head := by omega
      have h1 : t.head < (g.length : Int) := by omega
      have hsgm : -1000 ≤ sg pos * x.wt ∧ sg pos * x.wt ≤ 1000 := by rcases hsg with e | e <;> rw [e] <;> omega
      have hmul : IntKind.i64.wrap (sg pos * x.wt) = sg pos * x.wt := IntWalk.i64_in _ (by omega)
      have hadd : IntKind.i64.wrap (wS g S + sg pos * x.wt) = wS g S + sg pos * x.wt := IntWalk.i64_in _ (by omega)
      have hlg : g.length ≤ gc ∧ gc ≤ maxLen := ⟨hG.1, hG.2.1⟩
      unfold maxLen at hlg
      obtain ⟨hl3, hl4⟩ := hlg
      have hx2 : W1.cell? ⟨b, o + t.head.toNat * 4 + 2, none⟩ = some (.int .i64 x.wt) := (hF1.cell (p := ⟨b, _, none⟩) (by show b < w.heap.size; omega)).trans hc2
      have hS2 := hS1.sym h0 hin (hwf_of hwf) pos
      rw [hwx] at hS2
      have hF2 := (Sfr.of_below (Bs := Bs) (M := M) hF1).trans (Sfr.of_set Bs M W1 1 (.int .i64 (wS g S + sg pos * x.wt)))
      have hargs := fits_args hft hbd
      have HAR := Lib.hid (fun (s : T) (hs : s ∈ t.args) => hargs s hs)
      have HS1 := Lib.hid hS1
      have HS2 := Lib.hid hS2
      have HF1 := Lib.hid hF1
      have HF2 := Lib.hid hF2
      have HA := Lib.hid hA
      have HG := Lib.hid hG
      obtain ⟨c0, c1, c2, fz, dm, ok⟩ := hS1
      clear hA hG hS LT dm ok hF1 hwf hargs hS2 hF2 hft hbd hc0 hc1 hc2 hc3 hsx hxw hwx hsgm
      go_enter Tryz.func172, Tryz.ntmps172
      go_wp2
      clear hW1
      go_still_tail 18, (by kernel_rfl)
      change wpList _ _ _ _ _ W1.drew
      go_wp2
      have hW2s : Scl (W1.setCell ⟨Bs, 1, none⟩ (.int .i64 (wS g S + sg pos * x.wt))).drew Bs M g (some ⟨b, o, none⟩) gc (pl pos S [t.head]) := HS2.out.kept rfl rfl
      have hW2f : Sfr Bs M w (W1.setCell ⟨Bs, 1, none⟩ (.int .i64 (wS g S + sg pos * x.wt))).drew := HF2.out.drew
      have hW2v : (W1.setCell ⟨Bs, 1, none⟩ (.int .i64 (wS g S + sg pos * x.wt))).drew.cell? ⟨w.heap.size, 1, none⟩ = some (.slice a t.args.length c) := by
        show (W1.setCell ⟨Bs, 1, none⟩ (.int .i64 (wS g S + sg pos * x.wt))).cell? ⟨w.heap.size, 1, none⟩ = _
        rw [World.cell?_setCell_other _ _ _ _ (by intro q; simp at q <;> omega)]; exact hv1
      have hW2b : w.heap.size < (W1.setCell ⟨Bs, 1, none⟩ (.int .i64 (wS g S + sg pos * x.wt))).drew.heap.size := by
        show w.heap.size < (W1.setCell ⟨Bs, 1, none⟩ (.int .i64 (wS g S + sg pos * x.wt))).heap.size
        simpa using hb1
      clear HS1 HS2 HF1 HF2 c0 c1 c2 fz hv0 hv1 hx2 hmul hadd
      generalize (W1.setCell ⟨Bs, 1, none⟩ (.int .i64 (wS g S + sg pos * x.wt))).drew = W2 at *
      have HW2 := Lib.hid hW2s
      have HF2 := Lib.hid hW2f
      have HN := Lib.hid (show n₀ ≤ w.heap.size ∧ n₀ ≤ Bs ∧ n₀ ≤ M from ⟨hn, hnB, hnM⟩)
      have hlc : t.args.length ≤ c ∧ c ≤ maxLen := ⟨HA.out.1, HA.out.2.1⟩
      unfold maxLen at hlc
      obtain ⟨hl1, hl2⟩ := hlc
      clear hW2s hW2f
      go_loopw [49] (fun i wr => PtI Bs M g (some ⟨b, o, none⟩) gc pos S t W2 i wr) (fun i _ => t.args.length - (intOf i).toNat)
      case atStart => exact ⟨0, Nat.zero_le _, rfl, by simpa [T.hdsL] using HW2.out, Sfr.refl _ _ _⟩
      case round =>
        obtain ⟨k, hk, rfl, hSk, hFk⟩ := hrel
        have HSk := Lib.hid hSk
        have HFk := Lib.hid hFk
        have hvk : wr.cell? ⟨w.heap.size, 1, none⟩ = some (.slice a t.args.length c) := (hFk.cell hW2b hbB hbM).trans hW2v
        have hBw : Below n₀ w wr := (HF2.out.trans hFk).below HN.out.2.1 HN.out.2.2 HN.out.1
        have hszr := hFk.size
        by_cases hlt : k < t.args.length
        · obtain ⟨bb, oo, s, a', c', rfl, hbbn, hs, hswf, hcs1, hcs2, hA'⟩ := (HA.out.below hBw).elem (i := k) hlt
          have hk0 : (0 : Int) ≤ (k : Int) := Int.natCast_nonneg _
          have hk1 : (k : Int) < (t.args.length : Int) := by omega
          have hsm := List.mem_of_getElem? hs
          obtain ⟨hfs, hbs⟩ := HAR.out s hsm
          have hss : s.size ≤ N := by
            have h1 := T.size_lt_of_mem hs
            have h2 := T.size_eq t
            omega
          have hls : lenS (pl pos S (t.head :: T.hdsL (t.args.take k))) + s.size ≤ 1000000 := by
            rw [lenS_pl, List.length_cons, T.hdsL_length]
            have h1 := T.sizes_take hs
            have h2 := T.size_eq t
            have h3 := T.sizes_append (t.args.take (k + 1)) (t.args.drop (k + 1))
            rw [List.take_append_drop] at h3
            omega
          have hcall := IH.out s hss hfs hbs _ hls n₀ (some ⟨b, o, none⟩) gc a' c' Bs M wr HN.out.2.1 HN.out.2.2 (Nat.le_trans HN.out.1 (by omega)) (HG.out.below hBw) hswf hA' hSk
          rw [pl_pl, List.cons_append, ← hdsL_take' hs] at hcall
          have HCALL := Lib.hid hcall
          have hbb : bb < wr.heap.size := by omega
          clear hcall hA' hs hsm hSk hFk hBw hls hss
          go_wp2_with fail
          refine HCALL.out.mono ?_
          rintro e w5 ⟨rfl, hS5, hF5⟩
          have HS5 := Lib.hid hS5
          have HF5 := Lib.hid (HFk.out.trans hF5)
          clear hS5 hF5
          go_wp2
          go_roundw
          case rel => exact ⟨k + 1, by omega, by go_num, HS5.out, HF5.out⟩
          case measure => simp [intOf]; omega
        · obtain rfl : k = t.args.length := by omega
          clear hSk hFk hBw
          go_wp2
          refine bodyPost_end (v := .tuple #[]) (by simp [results, Tryz.results172, go_sem]) rfl ?_
          refine ⟨rfl, ?_, HF2.out.trans HFk.out⟩
          have := HSk.out
          rw [List.take_length, ← T.hds_eq] at this
          exact this

end Go.Proofs.YtbdabdjpgmnejaaGreat

/- Kbo's scale: contracts of add, byHead and decide. -/
namespace Go.Proofs.YtbdabdjpgmnejaaGreat
set_option linter.unusedVariables false
set_option linter.unusedSimpArgs false
open Go.RowKit Go.Maps

/-- Both terms put on their sides. -/
def ab (S : Sds) (a b : T) : Sds := pl false (pl true S a.hds) b.hds

set_option maxRecDepth 100000 in
set_option maxHeartbeats 4000000 in
theorem scAdd_any (g : Sg) (hr : rightG g = true) (t u : T) (hft : fitsT g t = true) (hbt : bad (T.subs 1 t) = false) (hfu : fitsT g u = true) (hbu : bad (T.subs 1 u) = false) (S : Sds) (hlen : lenS S + t.size + u.size ≤ 1000000)
    (n₀ : Nat) (ga : Option Addr) (gc : Nat) (a : Option Addr) (c : Nat) (a' : Option Addr) (c' Bs M : Nat) (w : World) (hnB : n₀ ≤ Bs) (hnM : n₀ ≤ M) (hn : n₀ ≤ w.heap.size) (hG : IsSg n₀ w g ga gc) (hwt : (Lit.int .i64 t.head).wf = true) (hwu : (Lit.int .i64 u.head).wf = true) (hA : IsArgs n₀ w t.args a c) (hA' : IsArgs n₀ w u.args a' c') (hS : Scl w Bs M g ga gc S) :
    Calls Tryz.prog 158 #[.pointer (some ⟨Bs, 0, none⟩), tm t.head a t.args.length c, tm u.head a' u.args.length c'] w (ScPost Bs M g ga gc (ab S t u) w) := by
  have hBl := hS.lt
  have hMl := hS.map.lt
  obtain ⟨W1, hW1⟩ : ∃ W1, w.alloc (tmCells t.head a t.args.length c) = W1 := ⟨_, rfl⟩
  have hs1 : W1.heap.size = w.heap.size + 1 := by rw [← hW1]; simp
  have hF1 : Below w.heap.size w W1 := by rw [← hW1]; exact (Below.refl _ w).alloc (Nat.le_refl _) _
  have L1 : Later (fun X => Vc w.heap.size t.head a t.args.length c X) W1 := by rw [← hW1]; exact later_var w _ _ _ _
  obtain ⟨W2, hW2⟩ : ∃ W2, W1.alloc (tmCells u.head a' u.args.length c') = W2 := ⟨_, rfl⟩
  have hs2 : W2.heap.size = w.heap.size + 2 := by rw [← hW2]; simp; omega
  have hF2 : Below w.heap.size w W2 := by rw [← hW2]; exact hF1.alloc (by omega) _
  have L2 : Later (fun X => Vc W1.heap.size u.head a' u.args.length c' X) W2 := by rw [← hW2]; exact later_var W1 _ _ _ _
  obtain ⟨hv0, hv1⟩ := (L1.mv (by rw [← hW2]; exact (Below.refl _ W1).alloc (Nat.le_refl _) _) : Later (fun X => Vc w.heap.size t.head a t.args.length c X) W2).now
  obtain ⟨hu0, hu1⟩ := L2.now
  rw [hs1] at hu0 hu1
  have hS2 := hS.later hF2
  have P1 := scPut_any g hr true t.size t (Nat.le_refl _) hft hbt S (by omega) n₀ ga gc a c Bs M W2 hnB hnM (by omega) (hG.below (hF2.mono hn)) hwt (hA.below (hF2.mono hn)) hS2
  have hl2 : lenS (pl true S t.hds) + u.size ≤ 1000000 := by rw [lenS_pl, T.hds_length]; omega
  have P2 := fun (W : World) (hW : Below n₀ W2 W) (hz : W2.heap.size ≤ W.heap.size) (hSW : Scl W Bs M g ga gc (pl true S t.hds)) =>
    scPut_any g hr false u.size u (Nat.le_refl _) hfu hbu (pl true S t.hds) hl2 n₀ ga gc a' c' Bs M W hnB hnM (by omega) (hG.below ((hF2.mono hn).trans hW)) hwu (hA'.below ((hF2.mono hn).trans hW)) hSW
  have P1 := Lib.hid P1
  have P2 := Lib.hid P2
  have HF2 := Lib.hid hF2
  have hbB : w.heap.size + 1 ≠ Bs := by omega
  have hbM : w.heap.size + 1 ≠ M := by omega
  clear hG hA hA' hS hS2 hF1 L1 L2 hF2
  go_enter Tryz.func158, Tryz.ntmps158
  go_wp2_with fail
  refine P1.out.mono ?_
  rintro e w3 ⟨rfl, hS3, hF3⟩
  have hb3 : Below n₀ W2 w3 := hF3.below hnB hnM (by omega)
  have hu0' : w3.cell? ⟨w.heap.size + 1, 0, none⟩ = some (.int .i64 u.head) := (hF3.cell (by omega) hbB hbM).trans hu0
  have hu1' : w3.cell? ⟨w.heap.size + 1, 1, none⟩ = some (.slice a' u.args.length c') := (hF3.cell (by omega) hbB hbM).trans hu1
  have Q2 := Lib.hid (P2.out w3 hb3 hF3.size hS3)
  have HF3 := Lib.hid ((Sfr.of_below HF2.out).trans hF3)
  clear hS3 hF3 hb3
  go_wp2_with fail
  refine Q2.out.mono ?_
  rintro e w4 ⟨rfl, hS4, hF4⟩
  have HS4 := Lib.hid hS4
  have HF4 := Lib.hid (HF3.out.trans hF4)
  clear hS4 hF4
  go_wp2
  refine bodyPost_end (v := .tuple #[]) (by simp [results, Tryz.results158, go_sem]) rfl ?_
  exact ⟨rfl, HS4.out, HF4.out⟩

/-- By the heads. -/
def byH (a b : T) : Int := if a.head < 0 ∨ b.head < 0 then 2 else ord a.head b.head

set_option maxRecDepth 100000 in
set_option maxHeartbeats 4000000 in
theorem byHead_any (t u : T) (a : Option Addr) (n c : Nat) (a' : Option Addr) (n' c' : Nat) (w : World) :
    Calls Tryz.prog 160 #[tm t.head a n c, tm u.head a' n' c'] w fun e w' => e = .returned (.int .i64 (byH t u)) ∧ Below w.heap.size w w' := by
  have HF := Lib.hid (show Below w.heap.size w ((w.alloc (tmCells t.head a n c)).alloc (tmCells u.head a' n' c')) from ((Below.refl _ w).alloc (Nat.le_refl _) _).alloc (by simp) _)
  by_cases h1 : t.head < 0
  · have HE := Lib.hid (show byH t u = 2 from by unfold byH; rw [if_pos (.inl h1)])
    go_enter Tryz.func160, Tryz.ntmps160
    go_wp2
    go_ret
    exact ⟨by rw [HE.out]; rfl, HF.out⟩
  · by_cases h2 : u.head < 0
    · have HE := Lib.hid (show byH t u = 2 from by unfold byH; rw [if_pos (.inr h2)])
      go_enter Tryz.func160, Tryz.ntmps160
      go_wp2
      go_ret
      exact ⟨by rw [HE.out]; rfl, HF.out⟩
    · have HE := Lib.hid (show byH t u = ord t.head u.head from by unfold byH; rw [if_neg (by omega)])
      go_enter Tryz.func160, Tryz.ntmps160
      go_wp2_with (go_at_call 146; refine (cmpCompare_any _ _ _).mono ?_; rintro e w' ⟨rfl, rfl⟩)
      go_ret
      exact ⟨by rw [HE.out]; rfl, HF.out⟩

/-! ### decide -/
def badB (o n : Int) : Bool := (decide (o = 1) && decide (n < 0)) || (decide (o = -1) && decide (0 < n))
def anyBad (S : Sds) (o : Int) : Bool := (S.1 ++ S.2).any fun v => decide (v < 0) && badB o (cS S v)
def decO (g : Sg) (S : Sds) (o : Int) : Int := if wS g S = 0 then o else ord (wS g S) 0
def decV (g : Sg) (S : Sds) (o : Int) : Int := if anyBad S (decO g S o) then 2 else decO g S o

theorem DifM.entry {S : Sds} {D : DataW Unit} (h3 : ∀ v, hwf v → Maps.has D (.int .i64 v) = decide (v < 0 ∧ (v ∈ S.1 ∨ v ∈ S.2)) ∧ (v < 0 → (v ∈ S.1 ∨ v ∈ S.2) → ∀ z, D.atKey (.int .i64 v) z = .lit (.int .i64 (cS S v)))) {x c : Int} (hx : (Lit.int .i64 x).wf = true)
    (hat : ∀ zd, D.atKey (.int .i64 x) zd = .lit (.int .i64 c)) : x < 0 ∧ (x ∈ S.1 ∨ x ∈ S.2) ∧ c = cS S x := by
  obtain ⟨q1, q2⟩ := h3 x (hwf_of hx)
  by_cases hm : x < 0 ∧ (x ∈ S.1 ∨ x ∈ S.2)
  · refine ⟨hm.1, hm.2, ?_⟩
    have := (hat .nil).symm.trans (q2 hm.1 hm.2 .nil)
    simpa using this
  · have h1 := hat .nil
    rw [Maps.atKey_of_not_has (by rw [q1]; simp [hm])] at h1
    cases h1

/-- None of those that have come is bad. -/
def NoBad (S : Sds) (o : Int) (left : Lit → Bool) : Prop := ∀ v, v < 0 → (v ∈ S.1 ∨ v ∈ S.2) → left (.int .i64 v) = false → badB o (cS S v) = false
theorem NoBad.none {S : Sds} {o : Int} {left : Lit → Bool} (h : NoBad S o left) (hl : ∀ kl, left kl = false) : anyBad S o = false := by
  unfold anyBad
  rw [List.any_eq_false]
  intro v hv
  rw [List.mem_append] at hv
  by_cases q : v < 0
  · rw [h v q hv (hl _)]; simp
  · simp [q]
theorem NoBad.step {S : Sds} {o : Int} {left : Lit → Bool} (h : NoBad S o left) {x : Int} (hx : badB o (cS S x) = false) : NoBad S o (fun z => left z && !z.sameKey (.int .i64 x)) := by
  intro v hv hm hl
  by_cases e : v = x
  · rw [e]; exact hx
  · refine h v hv hm ?_
    simpa [sameKey_int, e] using hl
theorem anyBad_hit {S : Sds} {o x : Int} (h0 : x < 0) (hm : x ∈ S.1 ∨ x ∈ S.2) (hx : badB o (cS S x) = true) : anyBad S o = true := by
  unfold anyBad
  rw [List.any_eq_true]
  exact ⟨x, List.mem_append.2 hm, by simp [h0, hx]⟩

set_option maxRecDepth 100000 in
set_option maxHeartbeats 4000000 in
theorem decide_any (g : Sg) (hr : rightG g = true) (S : Sds) (o : Int) (hlen : lenS S ≤ 1000000) (ga : Option Addr) (gc Bs M : Nat) (w : World) (hS : Scl w Bs M g ga gc S) :
    Calls Tryz.prog 159 #[.pointer (some ⟨Bs, 0, none⟩), .int .i64 o] w fun e w' => e = .returned (.int .i64 (decV g S o)) ∧ Below w.heap.size w w' := by
  have hwb := wS_bound hr (fun v hv => (hS.ok v hv).1)
  have hMl := hS.map.lt
  obtain ⟨c0, c1, c2, fz, ⟨D, nn, hnn, hown, hD⟩, ok⟩ := hS
  have HD := Lib.hid hD
  have HOK := Lib.hid (fun v hv => (ok v hv).2)
  clear hD ok
  obtain ⟨o', ho'⟩ : ∃ o', decO g S o = o' := ⟨_, rfl⟩
  obtain ⟨x0, hx0⟩ : ∃ x0, wS g S = x0 := ⟨_, rfl⟩
  rw [hx0] at c1
  obtain ⟨r, hr'⟩ : ∃ r, decV g S o = r := ⟨_, rfl⟩
  have HV := Lib.hid (show r = if anyBad S o' then 2 else o' from by rw [← hr']; unfold decV; rw [ho'])
  rw [hr']
  clear hr' hr
  by_cases h0 : x0 = 0
  · have he : o = o' := by rw [← ho']; unfold decO; rw [hx0, if_pos h0]
    rw [he]
    subst h0
    clear ho' hx0 hwb he
    go_enter Tryz.func159, Tryz.ntmps159
    go_wp2_with (first | (at_range; refine wpList_range_own _ rfl _ 126 rfl 3 3 keyHd Tryz.underlying126 _ M _ D rfl hown ?_; intro w4 hrg0 hg0 hs0))
    go_frame
    clear hs0 hown c0 c1 c2 fz
    have HST := Lib.hid (show ∃ (left : Lit → Bool) (cnt : Nat), w4.ranges Tryz.prog 3 (plainElem Tryz.prog 3) M w.heap.size nn D left cnt ∧ NoBad S o' left ∧ Below w.heap.size w w4 from
      ⟨_, _, hrg0, fun v hv hm hl => absurd hl (by rw [(HD.out v (HOK.out v hm)).1]; simp [hv, hm]), (Below.refl _ w).grown hg0 (Nat.le_refl _) (fun k e => by cases e)⟩)
    clear hrg0 hg0
    go_loopw [] (fun wr => ∃ (left : Lit → Bool) (cnt : Nat), wr.ranges Tryz.prog 3 (plainElem Tryz.prog 3) M w.heap.size nn D left cnt ∧ NoBad S o' left ∧ Below w.heap.size w wr) (fun wr => wr.rangeLeft M w.heap.size)
    case atStart => exact HST.out
    case round =>
      clear HST
      obtain ⟨left, cnt, hrg, hNB, hB⟩ := hrel
      have HB := Lib.hid hB
      have HNB := Lib.hid hNB
      clear hB hNB
      go_wp2_with (first | (at_next; refine wpList_next_ranges_ii _ rfl _ rfl 3 3 .i64 .i64 keyHd Tryz.underlying3 Tryz.underlying3 M w.heap.size _ _ _ _ rfl hrg ?_ ?_))
      · intro hc0 hl0
        have HE := Lib.hid (show r = o' from by rw [HV.out, HNB.out.none hl0]; rfl)
        go_wp2
        go_ret
        exact ⟨by rw [HE.out]; rfl, HB.out⟩
      · intro x cv w5 cnt1 hwx hwc hlx hat hrg1 hlt hg1 hs1 hen
        have HB5 := Lib.hid (HB.out.grown hg1 HB.out.size (fun j hj => by cases hj; exact Nat.le_refl _))
        obtain ⟨hx0, hxm, hcv⟩ := DifM.entry HD.out hwx hat
        have HRG := Lib.hid hrg1
        have HR0 := Lib.hid hrg
        have HX := Lib.hid (And.intro hx0 hxm)
        have HCV := Lib.hid hcv
        clear hrg1 hat hwx hwc hlx hrg hx0 hxm hcv
        by_cases q1 : o' = 1
        · by_cases q2 : cv < 0
          · have HE := Lib.hid (show r = 2 from by rw [HV.out, anyBad_hit HX.out.1 HX.out.2 (by rw [← HCV.out]; simp [badB, q1, q2])]; rfl)
            rw [q1]
            go_wp2
            go_ret
            exact ⟨by rw [HE.out]; rfl, HB5.out⟩
          · have HN := Lib.hid (HNB.out.step (x := x) (by rw [← HCV.out]; simp [badB, q1, q2]))
            rw [q1] at HN ⊢
            go_wp2
            go_roundw
            case rel => first | exact ⟨_, ⟨cnt1, HRG.out⟩, HN.out, HB5.out⟩ | exact ⟨_, cnt1, HRG.out, HN.out, HB5.out⟩
            case measure => rw [HRG.out.left_eq, HR0.out.left_eq]; exact hlt
        · by_cases q3 : o' = -1
          · by_cases q2 : 0 < cv
            · have HE := Lib.hid (show r = 2 from by rw [HV.out, anyBad_hit HX.out.1 HX.out.2 (by rw [← HCV.out]; simp [badB, q3, q2])]; rfl)
              rw [q3]
              go_wp2
              go_ret
              exact ⟨by rw [HE.out]; rfl, HB5.out⟩
            · have HN := Lib.hid (HNB.out.step (x := x) (by rw [← HCV.out]; simp [badB, q3, q2]))
              rw [q3] at HN ⊢
              go_wp2
              go_roundw
              case rel => first | exact ⟨_, ⟨cnt1, HRG.out⟩, HN.out, HB5.out⟩ | exact ⟨_, cnt1, HRG.out, HN.out, HB5.out⟩
              case measure => rw [HRG.out.left_eq, HR0.out.left_eq]; exact hlt
          · have HN := Lib.hid (HNB.out.step (x := x) (by simp [badB, q1, q3]))
            go_wp2
            go_roundw
            case rel => first | exact ⟨_, ⟨cnt1, HRG.out⟩, HN.out, HB5.out⟩ | exact ⟨_, cnt1, HRG.out, HN.out, HB5.out⟩
            case measure => rw [HRG.out.left_eq, HR0.out.left_eq]; exact hlt
  · have he : ord x0 0 = o' := by rw [← ho']; unfold decO; rw [hx0, if_neg h0]
    have HC := Lib.hid (fun (W : World) => show Calls Tryz.prog 146 #[.int .i64 x0, .int .i64 0] W fun e w' => e = .returned (.int .i64 o') ∧ W = w' from by rw [← he]; exact (cmpCompare_any x0 0 W).mono fun _ _ h => ⟨h.1, h.2.symm⟩)
    have h0' : (x0 != 0) = true := by simpa using h0
    clear ho' hx0 hwb he h0
    go_enter Tryz.func159, Tryz.ntmps159
    go_wp2_with (first | (go_at_call 146; refine (HC.out _).mono ?_; rintro e w' ⟨rfl, rfl⟩) | (at_range; refine wpList_range_own _ rfl _ 126 rfl 3 3 keyHd Tryz.underlying126 _ M _ D rfl hown ?_; intro w4 hrg0 hg0 hs0))
    go_frame
    clear hs0 hown c0 c1 c2 fz
    have HST := Lib.hid (show ∃ (left : Lit → Bool) (cnt : Nat), w4.ranges Tryz.prog 3 (plainElem Tryz.prog 3) M w.heap.size nn D left cnt ∧ NoBad S o' left ∧ Below w.heap.size w w4 from
      ⟨_, _, hrg0, fun v hv hm hl => absurd hl (by rw [(HD.out v (HOK.out v hm)).1]; simp [hv, hm]), (Below.refl _ w).grown hg0 (Nat.le_refl _) (fun k e => by cases e)⟩)
    clear hrg0 hg0
    go_loopw [] (fun wr => ∃ (left : Lit → Bool) (cnt : Nat), wr.ranges Tryz.prog 3 (plainElem Tryz.prog 3) M w.heap.size nn D left cnt ∧ NoBad S o' left ∧ Below w.heap.size w wr) (fun wr => wr.rangeLeft M w.heap.size)
    case atStart => exact HST.out
    case round =>
      clear HST
      obtain ⟨left, cnt, hrg, hNB, hB⟩ := hrel
      have HB := Lib.hid hB
      have HNB := Lib.hid hNB
      clear hB hNB
      go_wp2_with (first | (at_next; refine wpList_next_ranges_ii _ rfl _ rfl 3 3 .i64 .i64 keyHd Tryz.underlying3 Tryz.underlying3 M w.heap.size _ _ _ _ rfl hrg ?_ ?_))
      · intro hc0 hl0
        have HE := Lib.hid (show r = o' from by rw [HV.out, HNB.out.none hl0]; rfl)
        go_wp2
        go_ret
        exact ⟨by rw [HE.out]; rfl, HB.out⟩
      · intro x cv w5 cnt1 hwx hwc hlx hat hrg1 hlt hg1 hs1 hen
        have HB5 := Lib.hid (HB.out.grown hg1 HB.out.size (fun j hj => by cases hj; exact Nat.le_refl _))
        obtain ⟨hx0, hxm, hcv⟩ := DifM.entry HD.out hwx hat
        have HRG := Lib.hid hrg1
        have HR0 := Lib.hid hrg
        have HX := Lib.hid (And.intro hx0 hxm)
        have HCV := Lib.hid hcv
        clear hrg1 hat hwx hwc hlx hrg hx0 hxm hcv
        by_cases q1 : o' = 1
        · by_cases q2 : cv < 0
          · have HE := Lib.hid (show r = 2 from by rw [HV.out, anyBad_hit HX.out.1 HX.out.2 (by rw [← HCV.out]; simp [badB, q1, q2])]; rfl)
            rw [q1]
            go_wp2
            go_ret
            exact ⟨by rw [HE.out]; rfl, HB5.out⟩
          · have HN := Lib.hid (HNB.out.step (x := x) (by rw [← HCV.out]; simp [badB, q1, q2]))
            rw [q1] at HN ⊢
            go_wp2
            go_roundw
            case rel => first | exact ⟨_, ⟨cnt1, HRG.out⟩, HN.out, HB5.out⟩ | exact ⟨_, cnt1, HRG.out, HN.out, HB5.out⟩
            case measure => rw [HRG.out.left_eq, HR0.out.left_eq]; exact hlt
        · by_cases q3 : o' = -1
          · by_cases q2 : 0 < cv
            · have HE := Lib.hid (show r = 2 from by rw [HV.out, anyBad_hit HX.out.1 HX.out.2 (by rw [← HCV.out]; simp [badB, q3, q2])]; rfl)
              rw [q3]
              go_wp2
              go_ret
              exact ⟨by rw [HE.out]; rfl, HB5.out⟩
            · have HN := Lib.hid (HNB.out.step (x := x) (by rw [← HCV.out]; simp [badB, q3, q2]))
              rw [q3] at HN ⊢
              go_wp2
              go_roundw
              case rel => first | exact ⟨_, ⟨cnt1, HRG.out⟩, HN.out, HB5.out⟩ | exact ⟨_, cnt1, HRG.out, HN.out, HB5.out⟩
              case measure => rw [HRG.out.left_eq, HR0.out.left_eq]; exact hlt
          · have HN := Lib.hid (HNB.out.step (x := x) (by simp [badB, q1, q3]))
            go_wp2
            go_roundw
            case rel => first | exact ⟨_, ⟨cnt1, HRG.out⟩, HN.out, HB5.out⟩ | exact ⟨_, cnt1, HRG.out, HN.out, HB5.out⟩
            case measure => rw [HRG.out.left_eq, HR0.out.left_eq]; exact hlt

end Go.Proofs.YtbdabdjpgmnejaaGreat

/- Kbo's scale: what decide's answer comes to. Plain facts. -/
namespace Go.Proofs.YtbdabdjpgmnejaaGreat
set_option linter.unusedVariables false
set_option linter.unusedSimpArgs false
open Go.RowKit

/-- The scale holds the difference of two rows of heads. -/
def CntD (S : Sds) (A B : List Int) : Prop := ∀ v, cS S v = (A.count v : Nat) - (B.count v : Nat)
theorem sumA_perm' (f : Int → Int) {a b : List Int} (h : a.Perm b) : sumA f a = sumA f b := by
  induction h with
  | nil => rfl
  | cons x _ ih => simp [sumA, ih]
  | swap x y l => simp [sumA]; omega
  | trans _ _ h1 h2 => rw [h1, h2]
theorem CntD.wS {S : Sds} {A B : List Int} (h : CntD S A B) (g : Sg) : wS g S = sumA (wo g) A - sumA (wo g) B := by
  have hp : (S.1 ++ B).Perm (A ++ S.2) := List.perm_iff_count.2 fun v => by
    have := h v
    unfold cS at this
    rw [List.count_append, List.count_append]
    omega
  have := sumA_perm' (wo g) hp
  rw [sumA_append, sumA_append] at this
  unfold Go.Proofs.YtbdabdjpgmnejaaGreat.wS
  omega
theorem CntD.nil (A : List Int) : CntD ([], []) A A := fun v => by simp [cS]
theorem CntD.put {S : Sds} {A B L R : List Int} (h : CntD S A B) : CntD (pl false (pl true S L) R) (A ++ L) (B ++ R) := fun v => by
  rw [cS_pl, cS_pl, h v, List.count_append, List.count_append]
  simp [sg]; omega
theorem CntD.bad1 {S : Sds} {a b : T} (h : CntD S a.hds b.hds) : anyBad S 1 = false ↔ Oft a b := by
  unfold anyBad
  rw [List.any_eq_false]
  simp only [List.mem_append, badB, Bool.and_eq_true, Bool.or_eq_true, decide_eq_true_eq, Bool.not_eq_true]
  constructor
  · intro hh v hv
    have e := h v
    by_cases q : cS S v < 0
    · exfalso
      have hm : v ∈ S.2 := List.count_pos_iff.1 (by unfold cS at q; omega)
      exact hh v (.inr hm) ⟨hv, by simp; exact q⟩
    · omega
  · rintro hh v hv ⟨h0, h1 | h1⟩
    · have e := h v
      have := hh v h0
      omega
    · omega
theorem CntD.bad2 {S : Sds} {a b : T} (h : CntD S a.hds b.hds) : anyBad S (-1) = false ↔ Oft b a := by
  unfold anyBad
  rw [List.any_eq_false]
  simp only [List.mem_append, badB, Bool.and_eq_true, Bool.or_eq_true, decide_eq_true_eq, Bool.not_eq_true]
  constructor
  · intro hh v hv
    have e := h v
    by_cases q : 0 < cS S v
    · exfalso
      have hm : v ∈ S.1 := List.count_pos_iff.1 (by unfold cS at q; omega)
      exact hh v (.inl hm) ⟨hv, by simp; exact q⟩
    · omega
  · rintro hh v hv ⟨h0, h1 | h1⟩
    · omega
    · have e := h v
      have := hh v h0
      omega
theorem anyBad_else {S : Sds} {o : Int} (h1 : o ≠ 1) (h2 : o ≠ -1) : anyBad S o = false := by
  unfold anyBad
  rw [List.any_eq_false]
  intro v _
  simp [badB, h1, h2]
/-- At the same weight, which one is greater by the heads or by the arguments. -/
def ByH (g : Sg) (a b : T) : Prop := 0 ≤ a.head ∧ 0 ≤ b.head ∧ (b.head < a.head ∨ (a.head = b.head ∧ gtL g a.args b.args = true))
theorem decV_stand {g : Sg} {S : Sds} {a b : T} {o : Int} (h : CntD S a.hds b.hds) (hne : a ≠ b) (ho : o = 1 ∨ o = -1 ∨ o = 2) (h1 : o = 1 ↔ ByH g a b) (h2 : o = -1 ↔ ByH g b a) : decV g S o = stand g a b := by
  have hw := h.wS g
  rw [sumA_hds, sumA_hds] at hw
  have g1 : gtK g a b = true ↔ Oft a b ∧ (wtT g b < wtT g a ∨ (wtT g a = wtT g b ∧ ByH g a b)) := gtK_iff
  have g2 : gtK g b a = true ↔ Oft b a ∧ (wtT g a < wtT g b ∨ (wtT g b = wtT g a ∧ ByH g b a)) := gtK_iff
  have hst : ∀ (x : Int), (x = 1 ↔ gtK g a b = true) → (x = -1 ↔ gtK g b a = true) → (x = 1 ∨ x = -1 ∨ x = 2) → x = stand g a b := by
    intro x k1 k2 k3
    rcases stand_cases g a b with ⟨_, e⟩ | ⟨e1, e2⟩ | ⟨e1, e2⟩ | ⟨e1, _, e2, e3⟩
    · exact absurd e hne
    · rw [e1]; exact k1.2 e2
    · rw [e1]; exact k2.2 e2
    · rw [e1]
      rcases k3 with k | k | k
      · have := k1.1 k; rw [e2] at this; cases this
      · have := k2.1 k; rw [e3] at this; cases this
      · exact k
  have key : ∀ x, decO g S o = x → (x = 1 ∨ x = -1 ∨ x = 2) → (x = 1 ↔ (wtT g b < wtT g a ∨ (wtT g a = wtT g b ∧ ByH g a b))) → (x = -1 ↔ (wtT g a < wtT g b ∨ (wtT g b = wtT g a ∧ ByH g b a))) → decV g S o = stand g a b := by
    intro x hx k3 k1 k2
    have hv : decV g S o = if anyBad S x then 2 else x := by unfold decV; rw [hx]
    apply hst
    · rw [g1, ← k1, hv, ← h.bad1]
      rcases k3 with rfl | rfl | rfl
      · cases anyBad S 1 <;> simp
      · cases anyBad S (-1) <;> simp
      · rw [anyBad_else (by omega) (by omega)]; simp
    · rw [g2, ← k2, hv, ← h.bad2]
      rcases k3 with rfl | rfl | rfl
      · cases anyBad S 1 <;> simp
      · cases anyBad S (-1) <;> simp
      · rw [anyBad_else (by omega) (by omega)]; simp
    · rw [hv]
      split
      · exact .inr (.inr rfl)
      · exact k3
  by_cases e : wtT g a = wtT g b
  · have hd : decO g S o = o := by unfold decO; rw [if_pos (by omega)]
    refine key o hd ho ?_ ?_
    · rw [h1]
      exact ⟨fun q => .inr ⟨e, q⟩, fun q => by rcases q with q | q; omega; exact q.2⟩
    · rw [h2]
      exact ⟨fun q => .inr ⟨e.symm, q⟩, fun q => by rcases q with q | q; omega; exact q.2⟩
  · have hd : decO g S o = ord (wS g S) 0 := by unfold decO; rw [if_neg (by omega)]
    by_cases e2 : wtT g b < wtT g a
    · have ho2 : ord (wS g S) 0 = 1 := by unfold ord; rw [if_neg (by omega), if_pos (by omega)]
      rw [ho2] at hd
      exact key 1 hd (.inl rfl) ⟨fun _ => .inl e2, fun _ => rfl⟩ ⟨fun q => by omega, fun q => by rcases q with q | q <;> omega⟩
    · have ho2 : ord (wS g S) 0 = -1 := by unfold ord; rw [if_pos (by omega)]
      rw [ho2] at hd
      exact key (-1) hd (.inr (.inl rfl)) ⟨fun q => by omega, fun q => by rcases q with q | q <;> omega⟩ ⟨fun _ => .inl (by omega), fun _ => rfl⟩
theorem byH_cases (a b : T) (h : a.head ≠ b.head) : byH a b = 1 ∨ byH a b = -1 ∨ byH a b = 2 := by
  unfold byH ord
  split
  · exact .inr (.inr rfl)
  · split
    · exact .inr (.inl rfl)
    · split
      · exact .inl rfl
      · omega
theorem byH_one {g : Sg} {a b : T} (h : a.head ≠ b.head) : byH a b = 1 ↔ ByH g a b := by
  unfold byH ByH ord
  split
  · constructor
    · intro q; omega
    · intro q; omega
  · split
    · constructor
      · intro q; omega
      · rintro ⟨_, _, q | q⟩
        · omega
        · exact absurd q.1 h
    · split
      · exact ⟨fun _ => ⟨by omega, by omega, .inl (by omega)⟩, fun _ => rfl⟩
      · omega
theorem byH_two {g : Sg} {a b : T} (h : a.head ≠ b.head) : byH a b = -1 ↔ ByH g b a := by
  unfold byH ByH ord
  split
  · constructor
    · intro q; omega
    · intro q; omega
  · split
    · exact ⟨fun _ => ⟨by omega, by omega, .inl (by omega)⟩, fun _ => rfl⟩
    · split
      · constructor
        · intro q; omega
        · rintro ⟨_, _, q | q⟩
          · omega
          · exact absurd q.1.symm h
      · omega
theorem decV_empty (g : Sg) : decV g ([], []) 0 = 0 := by
  have : decO g ([], []) 0 = 0 := by unfold decO wS; simp [sumA]
  unfold decV
  rw [this, anyBad_else (by omega) (by omega)]; rfl

end Go.Proofs.YtbdabdjpgmnejaaGreat

/- Plain facts that tie the order to the way in which the document's answer reckons it. -/
namespace Go.Proofs.YtbdabdjpgmnejaaGreat
set_option linter.unusedVariables false
set_option linter.unusedSimpArgs false
open Go.RowKit

/-- Each symbol is the first of its name just if no two have one name. -/
theorem difSg_iff {g : Sg} : difSg g = true ↔ ∀ (i k : Nat) (x y : Sy), k < i → g[i]? = some x → g[k]? = some y → y.name ≠ x.name := by
  constructor
  · intro h i k x y hk hi hy e
    have hl := (List.getElem?_eq_some_iff.1 hi).1
    have h1 := List.all_eq_true.1 h i (List.mem_range.2 hl)
    rw [hi] at h1
    simp only [decide_eq_true_eq] at h1
    obtain ⟨_, _, _, h4⟩ := idxSy_get h1
    exact h4 k y hk hy e
  · intro h
    refine List.all_eq_true.2 fun i hi => ?_
    have hl := List.mem_range.1 hi
    have hx := List.getElem?_eq_getElem hl
    rw [hx]
    simp only [decide_eq_true_eq]
    exact idxSy_hit (fun j y hj hy => h i j _ y hj hx hy) hx rfl
/-- No two of the first k have one name. -/
def difK (g : Sg) (k : Nat) : Prop := ∀ (i j : Nat) (x y : Sy), i < k → j < i → g[i]? = some x → g[j]? = some y → y.name ≠ x.name
theorem difK_all {g : Sg} : difK g g.length ↔ difSg g = true := by
  rw [difSg_iff]
  constructor
  · intro h i k x y hk hi hy
    exact h i k x y (List.getElem?_eq_some_iff.1 hi).1 hk hi hy
  · intro h i j x y _ hj hi hy
    exact h i j x y hj hi hy
theorem difK_step {g : Sg} {k : Nat} {x : Sy} (hx : g[k]? = some x) : difK g (k + 1) ↔ difK g k ∧ ∀ (j : Nat) (y : Sy), j < k → g[j]? = some y → y.name ≠ x.name := by
  constructor
  · intro h
    exact ⟨fun i j a b hi hj ha hb => h i j a b (by omega) hj ha hb, fun j y hj hy => h k j x y (by omega) hj hx hy⟩
  · rintro ⟨h1, h2⟩ i j a b hi hj ha hb
    by_cases e : i = k
    · subst e
      rw [hx] at ha
      obtain rfl := Option.some.inj ha
      exact h2 j b hj hb
    · exact h1 i j a b (by omega) hj ha hb

/-! ### Heads, by loops over arguments -/
theorem hdsL_flat (ts : List T) : T.hdsL ts = (ts.map T.hds).flatten := by
  induction ts with
  | nil => rfl
  | cons t ts ih => simp [T.hdsL, ih]
theorem hds_unique {F : T → List Int} (hF : ∀ t, F t = t.head :: (t.args.map F).flatten) : ∀ (N : Nat) (t : T), t.size ≤ N → F t = t.hds := by
  intro N
  induction N with
  | zero => intro t ht; have := T.size_pos t; omega
  | succ N ih =>
    intro t ht
    rw [hF, T.hds_eq, hdsL_flat]
    congr 2
    exact List.map_congr_left fun s hs => ih s (by have := size_mem hs; have := T.size_eq t; omega)
theorem hdsL_append (a b : List T) : T.hdsL (a ++ b) = T.hdsL a ++ T.hdsL b := by simp [hdsL_flat]
theorem hdsL_take {ts : List T} {k : Nat} {s : T} (h : ts[k]? = some s) : T.hdsL (ts.take (k + 1)) = T.hdsL (ts.take k) ++ s.hds := by
  obtain ⟨hi, e⟩ := List.getElem?_eq_some_iff.1 h
  rw [List.take_succ_eq_append_getElem hi, hdsL_append, e]
  simp [T.hdsL]
theorem wtL_append (g : Sg) (a b : List T) : wtL g (a ++ b) = wtL g a + wtL g b := by
  induction a with
  | nil => simp [wtL]
  | cons t a ih => simp [wtL, ih]; omega
theorem wtL_take {g : Sg} {ts : List T} {k : Nat} {s : T} (h : ts[k]? = some s) : wtL g (ts.take (k + 1)) = wtL g (ts.take k) + wtT g s := by
  obtain ⟨hi, e⟩ := List.getElem?_eq_some_iff.1 h
  rw [List.take_succ_eq_append_getElem hi, wtL_append, e]
  simp [wtL]
theorem fitsL_take {g : Sg} {ts : List T} {k : Nat} {s : T} (h : ts[k]? = some s) : fitsL g (ts.take (k + 1)) = (fitsL g (ts.take k) && fitsT g s) := by
  obtain ⟨hi, e⟩ := List.getElem?_eq_some_iff.1 h
  rw [List.take_succ_eq_append_getElem hi, fitsL_all, fitsL_all, List.all_append, e]
  simp
theorem fitsL_bad {g : Sg} {ts : List T} {k : Nat} {s : T} (h : ts[k]? = some s) (hf : fitsT g s = false) : fitsL g ts = false := by
  rw [fitsL_all, List.all_eq_false]
  exact ⟨s, List.mem_of_getElem? h, by simp [hf]⟩
theorem predL_take {g : Sg} {ts : List T} {k : Nat} {s : T} (h : ts[k]? = some s) : predL g (ts.take (k + 1)) = (predL g (ts.take k) || predT g s) := by
  obtain ⟨hi, e⟩ := List.getElem?_eq_some_iff.1 h
  rw [List.take_succ_eq_append_getElem hi, predL_any, predL_any, List.any_append, e]
  simp
theorem predL_hit {g : Sg} {ts : List T} {k : Nat} {s : T} (h : ts[k]? = some s) (hp : predT g s = true) : predL g ts = true := by
  rw [predL_any, List.any_eq_true]
  exact ⟨s, List.mem_of_getElem? h, hp⟩

/-! ### Variables -/
def IsVars (vs : List Int) (t : T) : Prop := ∀ v, v ∈ vs ↔ ∃ x ∈ t.hds, x < 0 ∧ v = -1 - x
theorem oft_vars {a b : T} {vs : List Int} (h : IsVars vs b) : Oft a b ↔ ∀ v ∈ vs, b.hds.count (-1 - v) ≤ a.hds.count (-1 - v) := by
  constructor
  · intro o v hv
    obtain ⟨x, _, hx, rfl⟩ := (h v).1 hv
    exact o _ (by omega)
  · intro o z hz
    by_cases hm : z ∈ b.hds
    · have := o (-1 - z) ((h _).2 ⟨z, hm, hz, rfl⟩)
      rwa [show -1 - (-1 - z) = z from by omega] at this
    · rw [List.count_eq_zero.2 hm]; exact Nat.zero_le _
theorem grd_vars {t : T} {vs : List Int} (h : IsVars vs t) : vs = [] ↔ Grd t := by
  constructor
  · rintro rfl x hx
    by_cases q : x < 0
    · have := (h (-1 - x)).2 ⟨x, hx, q, rfl⟩
      simp at this
    · omega
  · intro hg
    refine List.eq_nil_iff_forall_not_mem.2 fun v hv => ?_
    obtain ⟨x, hx, q, _⟩ := (h v).1 hv
    have := hg x hx
    omega

/-! ### The first arguments that are not the same -/
theorem gtL_take {g : Sg} : ∀ {ts us : List T} {k : Nat}, ts.take k = us.take k → ts.length = us.length → gtL g ts us = gtL g (ts.drop k) (us.drop k)
  | ts, us, 0, _, _ => by simp
  | [], [], k + 1, _, _ => by simp
  | [], _ :: _, k + 1, _, hl => by simp at hl
  | _ :: _, [], k + 1, _, hl => by simp at hl
  | t :: ts, u :: us, k + 1, h, hl => by
    simp only [List.take_succ_cons, List.cons.injEq] at h
    obtain ⟨rfl, h⟩ := h
    rw [gtL, T.same_self, if_pos rfl]
    simp only [List.drop_succ_cons]
    exact gtL_take h (by simpa using hl)
theorem gtL_at {g : Sg} {ts us : List T} {k : Nat} {t u : T} (h : ts.take k = us.take k) (hl : ts.length = us.length) (ht : ts[k]? = some t) (hu : us[k]? = some u) (hne : t ≠ u) : gtL g ts us = gtK g t u := by
  rw [gtL_take h hl]
  obtain ⟨h1, e1⟩ := List.getElem?_eq_some_iff.1 ht
  obtain ⟨h2, e2⟩ := List.getElem?_eq_some_iff.1 hu
  rw [List.drop_eq_getElem_cons h1, List.drop_eq_getElem_cons h2, e1, e2, gtL, T.same_ne hne, if_neg (by simp)]
theorem gtL_end {g : Sg} {ts us : List T} (h : ts.take ts.length = us.take ts.length) (hl : ts.length = us.length) : gtL g ts us = false := by
  have : ts = us := by rw [List.take_length, hl, List.take_length] at h; exact h
  rw [this, gtL_self]

end Go.Proofs.YtbdabdjpgmnejaaGreat
