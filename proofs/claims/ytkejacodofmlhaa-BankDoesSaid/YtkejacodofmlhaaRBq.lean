/- Contract of the reference's put: the walk. -/
import Derived.Test.YtkejacodofmlhaaRBp
namespace Go.Proofs.Ytkejacodofmlhaa
set_option linter.unusedVariables false
set_option linter.unusedSimpArgs false
open Go.RowKit Go.Maps

theorem pts_append : ∀ (a b : List T) (L : List T), pts L (a ++ b) = match pts L a with
    | (L1, false) => (L1, false)
    | (L1, true) => pts L1 b := by
  intro a
  induction a with
  | nil => intro b L; simp [pts]
  | cons t a ih =>
    intro b L
    simp only [List.cons_append, pts]
    rcases pt L t with ⟨L1, _ | i⟩
    · rfl
    · exact ih b L1
theorem pts_snoc {L L1 : List T} {a : List T} (h : pts L a = (L1, true)) (t : T) : pts L (a ++ [t]) = match pt L1 t with
    | (L2, none) => (L2, false)
    | (L2, some _) => (L2, true) := by
  rw [pts_append, h]
  simp only [pts]
  rcases pt L1 t with ⟨L2, _ | i⟩ <;> rfl
theorem pts_fail {L L1 : List T} {a : List T} (h : pts L a = (L1, false)) (b : List T) : pts L (a ++ b) = (L1, false) := by
  rw [pts_append, h]

theorem pt_mem : ∀ (N : Nat) (t : T), t.size ≤ N → ∀ (L : List T), (L.length ≤ 4096 → (pt L t).1.length ≤ 4096) ∧ ∀ u ∈ (pt L t).1, u ∈ L ∨ u.size ≤ t.size := by
  intro N
  induction N with
  | zero => intro t ht; have := T.size_pos t; omega
  | succ N ih =>
    intro t ht L
    have hl : ∀ (us : List T), T.sizes us ≤ N → ∀ (L : List T), (L.length ≤ 4096 → (pts L us).1.length ≤ 4096) ∧ ∀ u ∈ (pts L us).1, u ∈ L ∨ u.size ≤ T.sizes us := by
      intro us
      induction us with
      | nil => intro _ L; simp only [pts]; exact ⟨fun h => h, fun u hu => .inl hu⟩
      | cons x us ihu =>
        intro hs L
        simp only [T.sizes] at hs ⊢
        obtain ⟨h1, h2⟩ := ih x (by omega) L
        rw [pts]
        rcases hp : pt L x with ⟨L1, _ | i⟩
        · rw [hp] at h1 h2
          refine ⟨h1, fun u hu => ?_⟩
          rcases h2 u hu with h | h
          · exact .inl h
          · exact .inr (by omega)
        · rw [hp] at h1 h2
          obtain ⟨h3, h4⟩ := ihu (by omega) L1
          refine ⟨fun hh => h3 (h1 hh), fun u hu => ?_⟩
          rcases h4 u hu with h | h
          · rcases h2 u h with h | h
            · exact .inl h
            · exact .inr (by omega)
          · exact .inr (by omega)
    have hsz := T.size_eq t
    rw [pt_eq]
    by_cases hin : t ∈ L
    · rw [if_pos hin]; exact ⟨fun h => h, fun u hu => .inl hu⟩
    · rw [if_neg hin]
      obtain ⟨h1, h2⟩ := hl t.args (by omega) L
      rcases hp : pts L t.args with ⟨L1, _ | _⟩
      · rw [hp] at h1 h2
        refine ⟨h1, fun u hu => (h2 u hu).imp id (fun h => by omega)⟩
      · rw [hp] at h1 h2
        simp only []
        split
        · exact ⟨h1, fun u hu => (h2 u hu).imp id (fun h => by omega)⟩
        · refine ⟨fun hh => by simp; omega, fun u hu => ?_⟩
          rcases List.mem_append.1 hu with hu | hu
          · exact (h2 u hu).imp id (fun h => by omega)
          · obtain rfl : u = t := by simpa using hu
            exact .inr (Nat.le_refl _)

def RPPost (B : Nat) (G : Nat → Prop) (rb : Nat) (v : Value) (p : List T × Option Nat) (w : World) (e : Ending) (w' : World) : Prop :=
  e = .returned (numR p.2) ∧ ∃ v', RBv B (Fw G w w') w' rb v' p.1 ∧ RS rb v w v' w'
def RPI (B : Nat) (G : Nat → Prop) (rb : Nat) (v : Value) (L : List T) (ts : List T) (w w2 : World) (i : Value) (wr : World) : Prop :=
  ∃ (k : Nat) (v' : Value) (L1 : List T), k ≤ ts.length ∧ i = .int .i64 k ∧ pts L (ts.take k) = (L1, true) ∧ RBv B (Fw G w wr) wr rb v' L1 ∧ RS rb v w2 v' wr ∧ (L.length ≤ 4096 → L1.length ≤ 4096) ∧ (∀ u ∈ L1, u ∈ L ∨ u.size ≤ T.sizes ts)
theorem own_last {w : World} {base : Nat} {e : TypeId} {g n cap : Nat} {xs : List Value} {x y : Value} (h : w.ownsRow base e 2 (.slice (some ⟨g, 0, none⟩) (n + 1) cap) (n + 1) (xs ++ [x, y])) (hx : xs.length = n * 2) :
    w.cell? ⟨g, n * 2, none⟩ = some x ∧ w.cell? ⟨g, n * 2 + 1, none⟩ = some y ∧ ∀ o, w.frozen? ⟨g, o, none⟩ = false := by
  have hc := h.cells (g := g) rfl
  have hadd : ∀ j, ((⟨g, 0, none⟩ : Addr).add j) = ⟨g, j, none⟩ := fun j => by unfold Addr.add; split <;> simp_all
  refine ⟨?_, ?_, fun o => ?_⟩
  · have := hc (n * 2) x (by rw [← hx, List.getElem?_append_right (Nat.le_refl _)]; simp)
    rwa [hadd] at this
  · have := hc (n * 2 + 1) y (by rw [← hx, List.getElem?_append_right (by omega)]; simp)
    rwa [hadd] at this
  · obtain ⟨_, _, cur, hh⟩ := Mm.rowBlock h (b := g) rfl
    simp [World.frozen?, hh]
theorem setCell_comm6 {w : World} {p q : Addr} (h : p.block ≠ q.block) (u v : Value) : (w.setCell p u).setCell q v = (w.setCell q v).setCell p u := by
  unfold World.setCell
  simp only []
  congr 1
  apply Array.ext_getElem?
  intro i
  simp only [Array.getElem?_modify]
  by_cases h1 : p.block = i
  · by_cases h2 : q.block = i
    · exact absurd (h1.trans h2.symm) h
    · simp [h1, h2]
  · by_cases h2 : q.block = i
    · simp [h1, h2]
    · simp [h1, h2]
theorem rb_ne {v : Value} {rb g5 n : Nat} (hsg : v.ownBlock ≠ some rb) (hl : rb < n) (hat : v.ownBlock = some g5 ∨ g5 = n + 1) : rb ≠ g5 := fun e => by
  rcases hat with h | h
  · exact hsg (h.trans (by rw [e]))
  · omega
theorem infoTerm6 : (Try.prog.info? 24).map (fun i => (i.zero, i.size, i.bytes)) = some (some (.agg #[.int .i64 0, .slice none 0 0]), 2, 32) := by kernel_rfl

set_option maxRecDepth 100000 in
set_option maxHeartbeats 4000000 in
theorem refPut6_any : ∀ (N : Nat) (t : T), t.size ≤ N → t.size ≤ 1000000000000 → ∀ (B : Nat) (G ok : Nat → Prop) (rb : Nat) (v : Value) (L : List T) (a : Option Addr) (c : Nat) (w : World), (∀ u ∈ L, u.size ≤ 1000000000000) → L.length ≤ 4096 → B ≤ w.heap.size → RBv B G w rb v L → (∀ i, G i → i < w.heap.size) →
    (∀ b, ok b → b < w.heap.size ∧ b ≠ rb ∧ v.ownBlock ≠ some b) → (Lit.int .i64 t.head).wf = true → IsArgsp ok w t.args a c →
    Calls Try.prog 39 #[.pointer (some ⟨rb, 0, none⟩), tm t.head a t.args.length c] w (RPPost B G rb v (pt L t) w) := by
  intro N
  induction N with
  | zero => intro t ht; have := T.size_pos t; omega
  | succ N ih =>
    intro t htN htb B G ok rb v L a c w hL hL4 hB hG hGl hok hwf hA
    have hcl : t.args.length ≤ c := hA.1
    have hcm : c ≤ maxLen := hA.2.1
    unfold maxLen at hcm
    obtain ⟨w1, hw1⟩ : ∃ w1, w.alloc (tmCells t.head a t.args.length c) = w1 := ⟨_, rfl⟩
    have hb1 : Below w.heap.size w w1 := by rw [← hw1]; exact (Below.refl _ _).alloc (Nat.le_refl _) _
    have hz1 : w1.heap.size = w.heap.size + 1 := by rw [← hw1]; simp
    have q0 : w1.cell? ⟨w.heap.size, 0, none⟩ = some (.int .i64 t.head) := by rw [← hw1]; simp [go_sem]
    have q1 : w1.cell? ⟨w.heap.size, 1, none⟩ = some (.slice a t.args.length c) := by rw [← hw1]; simp [go_sem]
    have hA0 := hA.toArgs (n := w.heap.size) (fun b hb => (hok b hb).1)
    have CF := Lib.hid (refFind_any B G rb L hL t htb w.heap.size a c w1 (by omega) (hG.later hb1).k (hA0.below hb1))
    have KB := Lib.hid (show ∀ W, Below w1.heap.size w1 W → W.cell? ⟨w.heap.size, 0, none⟩ = some (.int .i64 t.head) ∧ W.cell? ⟨w.heap.size, 1, none⟩ = some (.slice a t.args.length c) from fun W hW =>
      ⟨Mm.cell_via hW (by simp; omega) q0, Mm.cell_via hW (by simp; omega) q1⟩)
    have HB1 := Lib.hid hb1
    have HG := Lib.hid hG
    have HA := Lib.hid hA
    have HGL := Lib.hid hGl
    have HOK := Lib.hid hok
    have HL := Lib.hid hL
    have HWF := Lib.hid hwf
    have HTN := Lib.hid (show T.sizes t.args ≤ N from by have := T.size_eq t; omega)
    have hrb := hG.k.lt
    have hl0 := T.sizes_ge_length t.args
    have hl00 := T.size_eq t
    have hlen : t.args.length ≤ 1000000000000 := by omega
    clear hb1 hG hA hGl hok hL hwf q0 q1 hA0 hl0 hl00 htN
    subst hw1
    go_enter Try.func39, Try.ntmps39
    go_wp2_with fail
    generalize w.alloc (tmCells t.head a t.args.length c) = w1 at *
    by_cases hin : t ∈ L
    · have hfi : fi L t = some (L.idxOf t) := by unfold fi; rw [if_pos hin]
      have hpt : pt L t = (L, some (L.idxOf t)) := by rw [pt_eq, if_pos hin]
      refine CF.out.mono ?_
      rw [hfi]
      rintro e w2 ⟨rfl, hb2⟩
      have HP := Lib.hid (show RPPost B G rb v (pt L t) w (.returned (.tuple #[.int .i64 ((L.idxOf t : Nat) : Int), .int .i64 0])) w2 from by
        rw [hpt]
        have hb := HB1.out.trans (hb2.mono HB1.out.size)
        exact ⟨rfl, v, (HG.out.later hb).mono (fun i hi => .inl hi), RS.later hb⟩)
      generalize L.idxOf t = q at *
      clear hb2 CF hfi hpt hin
      simp only [foundR, Option.getD_some, Option.isSome_some]
      go_wp2
      go_ret2
      exact HP.out
    · refine CF.out.mono ?_
      rw [fi_none hin]
      unfold SrPost
      rw [show foundR none = .tuple #[.int .i64 0, .bool false] from rfl]
      rintro e w2 ⟨rfl, hb2⟩
      have hz2 := hb2.size
      have hbw2 := HB1.out.trans (hb2.mono HB1.out.size)
      have HB2 := Lib.hid hbw2
      obtain ⟨p0, p1⟩ := KB.out w2 hb2
      have KC := Lib.hid (show ∀ (W : World) (v' : Value), RS rb v w2 v' W → W.cell? ⟨w.heap.size, 0, none⟩ = some (.int .i64 t.head) ∧ W.cell? ⟨w.heap.size, 1, none⟩ = some (.slice a t.args.length c) ∧ IsArgsp ok W t.args a c from fun W v' hS => by
        have hk := hS.block w.heap.size (by omega) (by omega) (fun e => by have := HG.out.own_lt e; omega)
        refine ⟨(Mm.cell_of_block (a := ⟨w.heap.size, 0, none⟩) hk).trans p0, (Mm.cell_of_block (a := ⟨w.heap.size, 1, none⟩) hk).trans p1, HA.out.keep (fun b hb => ?_) (fun _ h => h)⟩
        obtain ⟨h1, h2, h3⟩ := HOK.out b hb
        exact (hS.block b (by omega) h2 h3).trans (hbw2.block b h1))
      have HST := Lib.hid (show RPI B G rb v L t.args w w2 (.int .i64 ((0 : Nat) : Int)) w2 from ⟨0, v, L, Nat.zero_le _, rfl, by simp [pts], (HG.out.later hbw2).mono (fun i hi => .inl hi), RS.refl _ _ _, fun h => h, fun u hu => .inl hu⟩)
      have HIN := Lib.hid hin
      clear hb2 hbw2 CF hin KB
      go_wp2
      clear p0 p1
      go_loopw [8] (fun i wr => RPI B G rb v L t.args w w2 i wr) (fun i _ => t.args.length - (intOf i).toNat)
      case atStart => exact HST.out
      case round =>
        obtain ⟨k, v', L1, hk, rfl, hps, hI, hS, hL1, hM1⟩ := hrel
        have hzr := hS.size
        obtain ⟨p0, p1, hAr⟩ := KC.out wr v' hS
        have HPS := Lib.hid hps
        have HI := Lib.hid hI
        have HS := Lib.hid hS
        have HM1 := Lib.hid hM1
        have hk0 : (0 : Int) ≤ (k : Int) := Int.natCast_nonneg _
        have h14 := hL1 hL4
        have hwl : w.heap.size < wr.heap.size := by omega
        clear hps hI hS hM1 HST hL1
        by_cases hlt : k < t.args.length
        · obtain ⟨b, o, s, a', c', rfl, hbo, hs, hswf, hc1, hc2, hA'⟩ := hAr.elem (i := k) hlt
          have hk1 : (k : Int) < (t.args.length : Int) := by omega
          have hbw : b < wr.heap.size := by have := (HOK.out b hbo).1; omega
          have hss := T.size_lt_of_mem hs
          have hsN : s.size ≤ N := by have := HTN.out; omega
          have hsb : s.size ≤ 1000000000000 := by have := T.size_eq t; omega
          have cn := ih s hsN hsb B (Fw G w wr) ok rb v' L1 a' c' wr (fun u hu => by
              rcases HM1.out u hu with h | h
              · exact HL.out u h
              · have := T.size_eq t; omega) h14 (by omega) HI.out (fun i hi => by
              rcases hi with hi | hi
              · have := HGL.out i hi; omega
              · omega) (fun i hi => by
              obtain ⟨h1, h2, h3⟩ := HOK.out i hi
              exact ⟨by omega, h2, fun e => h3 (HS.out.own i (by omega) e)⟩) hswf hA'
          have htk : t.args.take (k + 1) = t.args.take k ++ [s] := by
            obtain ⟨hkl, hke⟩ := List.getElem?_eq_some_iff.1 hs
            rw [List.take_succ_eq_append_getElem hkl, hke]
          have hst := pts_snoc HPS.out s
          rw [← htk] at hst
          have hpm := pt_mem s.size s (Nat.le_refl _) L1
          have HSS := Lib.hid hss
          unfold RPPost at cn
          clear hsN hsb htk hA' hs hswf hAr hss
          rcases hkp : pt L1 s with ⟨L2, _ | i⟩
          · rw [hkp] at hst cn
            simp only [] at hst
            have HST := Lib.hid hst
            have CN := Lib.hid cn
            clear hst hkp cn hpm
            go_wp2_with fail
            refine CN.out.mono ?_
            rintro e w3 ⟨rfl, v3, hI3, hS3⟩
            have HI3 := Lib.hid hI3
            have HS3 := Lib.hid hS3
            clear hI3 hS3 CN p0 p1
            simp only [numR]
            go_wp2
            go_ret2
            have hf := pts_fail HST.out (t.args.drop (k + 1))
            rw [List.take_append_drop] at hf
            unfold RPPost
            rw [pt_eq, if_neg HIN.out, hf]
            refine ⟨rfl, v3, HI3.out.mono (fun i hi => ?_), (RS.later HB2.out).trans (HS.out.trans HS3.out)⟩
            have hz3 := HS3.out.size
            rcases hi with (hi | hi) | hi
            · exact .inl hi
            · exact .inr (by omega)
            · exact .inr (by omega)
          · rw [hkp] at hst cn hpm
            simp only [] at hst
            have HST := Lib.hid hst
            have CN := Lib.hid cn
            have HPM := Lib.hid hpm
            clear hst hkp cn hpm
            go_wp2_with fail
            refine CN.out.mono ?_
            rintro e w3 ⟨rfl, v3, hI3, hS3⟩
            have HI3 := Lib.hid hI3
            have HS3 := Lib.hid hS3
            clear hI3 hS3 CN p0 p1
            simp only [numR, Option.getD_some, Option.isSome_some, if_true]
            go_wp2
            go_roundw
            case rel =>
              have hz3 := HS3.out.size
              refine ⟨k + 1, v3, L2, by omega, by go_num, HST.out, HI3.out.mono (fun i hi => ?_), HS.out.trans HS3.out, fun h => HPM.out.1 h14, fun u hu => ?_⟩
              · rcases hi with (hi | hi) | hi
                · exact .inl hi
                · exact .inr (by omega)
                · exact .inr (by omega)
              · rcases HPM.out.2 u hu with h | h
                · exact HM1.out u h
                · exact .inr (by have := HSS.out; omega)
            case measure => simp [intOf]; omega
        · obtain rfl : k = t.args.length := by omega
          have hps := HPS.out
          rw [List.take_length] at hps
          have HPT := Lib.hid (show pt L t = if 4096 ≤ L1.length then (L1, none) else (L1 ++ [t], some L1.length) from by rw [pt_eq, if_neg HIN.out, hps])
          obtain ⟨xs, r1, r2, r3, r4, r5, r6⟩ := HI.out
          have hrbr : rb < wr.heap.size := by omega
          have g0 : wr.cell? ⟨rb, 0, none⟩ = some v' := by simp [World.cell?, r1]
          have gf : wr.frozen? ⟨rb, 0, none⟩ = false := by simp [World.frozen?, r1]
          obtain ⟨sa, sc, rfl⟩ : ∃ sa sc, v' = .slice sa L1.length sc := by
            rcases r2.2 with ⟨h, h0⟩ | ⟨g, cap, cur, h, _⟩
            · exact ⟨none, 0, by rw [h, h0]⟩
            · exact ⟨_, _, h⟩
          clear hps
          by_cases hfull : 4096 ≤ L1.length
          · have hfi : (4096 : Int) ≤ (L1.length : Int) := by omega
            have HF := Lib.hid hfull
            clear r1 r2 r3 r4 r5 r6 hAr hfull
            go_wp2
            go_ret2
            unfold RPPost
            rw [HPT.out, if_pos HF.out]
            exact ⟨rfl, _, HI.out, (RS.later HB2.out).trans HS.out⟩
          · have hfi : ¬ (4096 : Int) ≤ (L1.length : Int) := by omega
            have CC := Lib.hid (refCopy_any t.size t (Nat.le_refl _) htb wr.heap.size a c wr (Nat.le_refl _) HWF.out (hAr.toArgs (fun b hb => by have := (HOK.out b hb).1; omega)))
            have HAR := Lib.hid hAr
            have R := Lib.hid (And.intro r2 r3)
            have HF := Lib.hid hfull
            clear r1 r2 r3 r4 r5 r6 hAr hfull
            go_wp2_with fail
            refine CC.out.mono ?_
            rintro e w4 ⟨a2, c2, rfl, hI4, hb4⟩
            go_wp2_with fail
            have hz4 := hb4.size
            obtain ⟨wx, hwx⟩ : ∃ wx, w4.alloc (.cells #[.int .i64 t.head, .slice a2 t.args.length c2] 24) = wx := ⟨_, rfl⟩
            have hbx4 : Below w4.heap.size w4 wx := by rw [← hwx]; exact (Below.refl _ _).alloc (Nat.le_refl _) _
            have hzx : wx.heap.size = w4.heap.size + 1 := by rw [← hwx]; simp
            have x0 : wx.cell? ⟨w4.heap.size, 0, none⟩ = some (.int .i64 t.head) := by rw [← hwx]; simp
            have x1 : wx.cell? ⟨w4.heap.size, 1, none⟩ = some (.slice a2 t.args.length c2) := by rw [← hwx]; simp
            have hbx : Below wr.heap.size wr wx := hb4.trans (hbx4.mono hz4)
            have hIx := HI.out.later hbx
            obtain ⟨ys, y1, y2, y3, y4, y5, y6⟩ := hIx
            have e0 := Mm.cell_via hbx (p := ⟨rb, 0, none⟩) hrbr g0
            have ef := Mm.frozen_via hbx (p := ⟨rb, 0, none⟩) hrbr gf
            have HBX := Lib.hid hbx
            have HY := Lib.hid (And.intro y2 y3)
            have HC4 := Lib.hid ((hI4.keep (w' := wx) (fun b hb => hbx4.block b hb.2) (fun b hb => ⟨hb.1, by omega⟩) : IsArgsp (fun b => wr.heap.size ≤ b ∧ b < wx.heap.size) wx t.args a2 c2))
            have hgl3 : rb < wx.heap.size := by omega
            have hx4 : w4.heap.size < wx.heap.size := by omega
            have hB3 : B ≤ wx.heap.size := by omega
            have hsg := HI.out.ne
            obtain ⟨i0, hi, hz0, hzz, hz2⟩ := info_parts infoTerm6
            have hlx := y2.1
            have hlt1 : (L1.length : Int) < (L1.length : Int) + 1 := by omega
            have HZX := Lib.hid hzx
            clear hb4 hI4 hbx4 hbx y1 y3 y4 y5 y6 g0 gf hzx
            rw [hwx]
            clear hwx
            have gd : ∀ ob, (wx.drew.alloc ob).cell? ⟨rb, 0, none⟩ = some (.slice sa L1.length sc) := fun ob => (World.cell?_of_block (a := ⟨rb, 0, none⟩) (Below.heap_alloc wx.drew ob _ hgl3)).trans e0
            have gfd : ∀ ob, (wx.drew.alloc ob).frozen? ⟨rb, 0, none⟩ = false := fun ob => (Mm.frozen_of_block (a := ⟨rb, 0, none⟩) (Below.heap_alloc wx.drew ob _ hgl3)).trans ef
            go_region_law (first
              | (refine step_append_lies _ (by rfl) _ _ _ (by rfl) B 24 i0 _ 2 32 Try.underlying22 hi hz0 hzz hz2 rfl (by omega) (.slice sa L1.length sc) L1.length ys (by rfl) ((show wx.drew.ownsRow B 24 2 (.slice sa L1.length sc) L1.length ys from y2).alloc _)
                  ⟨wx.heap.size, 0, none⟩ 1 1 [.int .i64 0, .slice none 0 0] (by rfl) (by rfl) (World.news_of_block (cs := #[.int .i64 0, .slice none 0 0]) (t := 24) (fr := (0, 0)) (heap_alloc_new wx.drew _)) (by simp [Value.oneCell'])
                  (by omega) (by unfold maxLen; omega) (by omega) (by simp; omega) (wx.heap.size + 1) (by simp) ?_; intro g5 cap5 w5 hown5 hgrow5 hat5 hlt5; have ho5 : w5.cell? ⟨rb, 0, none⟩ = some (.slice sa L1.length sc) := (Mm.cell_grown hgrow5 (p := ⟨rb, 0, none⟩) (by simp; omega) (fun e => hsg e.symm)).trans (gd _); have hf5 : w5.frozen? ⟨rb, 0, none⟩ = false := (Mm.frozen_grown hgrow5 (p := ⟨rb, 0, none⟩) (by simp; omega) (fun e => hsg e.symm)).trans (gfd _); obtain ⟨z0, z1, zf⟩ := own_last hown5 hlx; have hrg : rb ≠ g5 := rb_ne hsg hgl3 hat5; have hgr : g5 ≠ rb := Ne.symm hrg))
            all_goals
              have hzxx : wr.heap.size ≤ wx.heap.size := by have := HZX.out; omega
              have hst := rbput_step (lo := wr.heap.size) (HI.out.later HBX.out) (fun i hi => by
                rcases hi with hi | hi
                · have := HGL.out i hi; omega
                · omega) hzxx HWF.out HY.out.1 HY.out.2 HC4.out hgrow5 hown5 hat5 _ rfl
              have HP := Lib.hid (show RPPost B G rb v (pt L t) w (.returned (.tuple #[.int .i64 ((L1.length : Nat) : Int), .int .i64 0])) (((w5.setCell ⟨g5, L1.length * 2, none⟩ (.int .i64 t.head)).setCell ⟨g5, L1.length * 2 + 1, none⟩ (.slice a2 t.args.length c2)).setCell ⟨rb, 0, none⟩ (.slice (some ⟨g5, 0, none⟩) (L1.length + 1) cap5)) from by
                rw [HPT.out, if_neg HF.out]
                refine ⟨rfl, _, hst.1.mono (fun i hi => ?_), (RS.later HB2.out).trans (HS.out.trans ((RS.later HBX.out).trans hst.2))⟩
                have hz5 := hst.2.size
                rcases hi with (hi | hi) | hi
                · exact .inl hi
                · exact .inr (by omega)
                · exact .inr (by omega))
              have hw5 : rb < w5.heap.size := by have := hgrow5.size; simp at this; omega
              clear hst hown5 hgrow5 hat5
              go_wp2
              go_ret2
              first
                | exact HP.out
                | (have hp := HP.out; rw [setCell_comm6 (p := ⟨g5, L1.length * 2 + 1, none⟩) (q := ⟨rb, 0, none⟩) hgr, setCell_comm6 (p := ⟨g5, L1.length * 2, none⟩) (q := ⟨rb, 0, none⟩) hgr] at hp; exact hp)
                | (have hp := HP.out; rw [setCell_comm6 (p := ⟨g5, L1.length * 2 + 1, none⟩) (q := ⟨rb, 0, none⟩) hgr] at hp; exact hp)

end Go.Proofs.Ytkejacodofmlhaa
