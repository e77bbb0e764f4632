/- Contract of clause's Tautology. -/
import Derived.Test.YtbdabdjpgmnejaaGreatTdc
namespace Go.Proofs.YtbdabdjpgmnejaaGreat
set_option linter.unusedVariables false
set_option linter.unusedSimpArgs false
open Go.RowKit

def oppLB (a b : Lt3) : Bool := oppL a.neg a.l a.r b.neg b.l b.r
def trueL (x : Lt3) : Bool := !x.neg && sameB x.l x.r
/-- Does a literal of the second row hold always, or is one the opposite of an earlier one? -/
def tauP : List Lt3 → List Lt3 → Bool
  | _, [] => false
  | pre, x :: c => (trueL x || pre.any (fun k => oppLB k x)) || tauP (pre ++ [x]) c
def tauC (c : List Lt3) : Bool := tauP [] c
theorem IsCl.take {n₀ : Nat} {w : World} {P : List LV} {a : Option Addr} {c : Nat} (h : IsCl n₀ w P a c) (k : Nat) : IsCl n₀ w (P.take k) a c := by
  obtain ⟨h1, h2, h3⟩ := h
  refine ⟨Nat.le_trans (by simp; omega) h1, h2, ?_⟩
  rcases h3 with rfl | ⟨b, o, h4, h5, h6⟩
  · exact .inl (by simp)
  · exact .inr ⟨b, o, h4, h5, fun j x hx => h6 j x (by
      rw [List.getElem?_take] at hx
      split at hx
      · exact hx
      · cases hx)⟩

set_option maxRecDepth 100000 in
theorem taut1_any (x o : LV) (hx : x.sz) (n₀ B2 : Nat) (W : World) (hn : n₀ ≤ W.heap.size) (hX : IsLv n₀ W x) (hO : IsLv n₀ W o) (h2 : B2 < W.heap.size) (hl : Lc B2 o W) :
    Calls Tryz.prog 74 #[x.v, .pointer (some ⟨B2, 0, none⟩)] W fun e w' => e = .returned (.bool (oppLB x.t3 o.t3)) ∧ Below W.heap.size W w' := by
  obtain ⟨W1, hW1⟩ : ∃ W1, W.alloc x.obj = W1 := ⟨_, rfl⟩
  have hF1 : Below W.heap.size W W1 := by rw [← hW1]; exact (Below.refl _ W).alloc (Nat.le_refl _) _
  obtain ⟨x0, x1, x2, x3, x4⟩ := (show Later (Lc W.heap.size x) W1 from by rw [← hW1]; exact later_lc W x).now
  obtain ⟨l0, l1, l2, l3, l4⟩ := hl
  have k0 := (hF1.cell (p := ⟨B2, 0, none⟩) h2).trans l0
  have k1 := (hF1.cell (p := ⟨B2, 1, none⟩) h2).trans l1
  have k2 := (hF1.cell (p := ⟨B2, 2, none⟩) h2).trans l2
  have k3 := (hF1.cell (p := ⟨B2, 3, none⟩) h2).trans l3
  have k4 := (hF1.cell (p := ⟨B2, 4, none⟩) h2).trans l4
  have HC := Lib.hid (litOpposite_any x o hx n₀ W1 (Nat.le_trans hn hF1.size) (hX.below (hF1.mono hn)) (hO.below (hF1.mono hn)))
  have HE := Lib.hid (show oppL x.n x.l x.r o.n o.l o.r = oppLB x.t3 o.t3 from rfl)
  have HF1 := Lib.hid hF1
  clear hX hO hF1 l0 l1 l2 l3 l4
  go_enter Tryz.func74, Tryz.ntmps74
  go_wp2_with fail
  refine HC.out.mono ?_
  rintro e w2 ⟨rfl, hb2⟩
  have HB := Lib.hid (HF1.out.trans (hb2.mono HF1.out.size))
  clear hb2
  go_wp2
  go_ret
  exact ⟨by rw [← HE.out]; rfl, HB.out⟩

def TauI (P : List LV) (w : World) (i : Value) (wr : World) : Prop := ∃ k : Nat, k ≤ P.length ∧ i = .int .i64 k ∧ tauC (t3s P) = tauP ((t3s P).take k) ((t3s P).drop k) ∧ Below w.heap.size w wr
theorem tau_step {P : List LV} {k : Nat} {x : LV} (h : P[k]? = some x) : tauP ((t3s P).take k) ((t3s P).drop k) = ((trueL x.t3 || (t3s (P.take k)).any (fun y => oppLB y x.t3)) || tauP ((t3s P).take (k + 1)) ((t3s P).drop (k + 1))) := by
  have h' := t3s_get h
  obtain ⟨hkl, hke⟩ := List.getElem?_eq_some_iff.1 h'
  rw [List.drop_eq_getElem_cons hkl, hke, tauP, List.take_add_one, h', ← List.map_take]
  rfl

set_option maxRecDepth 100000 in
set_option maxHeartbeats 4000000 in
theorem tautology_any (P : List LV) (hsz : ∀ x ∈ P, x.sz) (n₀ : Nat) (a : Option Addr) (c : Nat) (w : World) (hn : n₀ ≤ w.heap.size) (hP : IsCl n₀ w P a c) :
    Calls Tryz.prog 42 #[.slice a P.length c] w fun e w' => e = .returned (.bool (tauC (t3s P))) ∧ Below w.heap.size w w' := by
  have hlc : P.length ≤ c ∧ c ≤ maxLen := ⟨hP.1, hP.2.1⟩
  unfold maxLen at hlc
  obtain ⟨hl1, hl2⟩ := hlc
  have HP := Lib.hid (hP.mono hn)
  have HSZ := Lib.hid hsz
  have eg := enters_of Tryz.func74 (by kernel_rfl) rfl
  clear hP hsz
  go_enter Tryz.func42, Tryz.ntmps42
  go_wp2
  go_loopw [7] (fun i wr => TauI P w i wr) (fun i _ => P.length - (intOf i).toNat)
  case atStart => exact ⟨0, Nat.zero_le _, rfl, rfl, Below.refl _ _⟩
  case round =>
    obtain ⟨k, hk, rfl, hE, hB⟩ := hrel
    have HE := Lib.hid hE
    have HB := Lib.hid hB
    have hbz := hB.size
    clear hE hB
    by_cases hlt : k < P.length
    · obtain ⟨b, o, x, rfl, hb, hx, ⟨a0, a1, a2, a3, a4⟩, hxl⟩ := (HP.out.below HB.out).elem (i := k) hlt
      have hxs := HSZ.out x (List.mem_of_getElem? hx)
      have hk0 : (0 : Int) ≤ (k : Int) := Int.natCast_nonneg _
      have hk1 : (k : Int) < (P.length : Int) := by omega
      have hk2 : (k : Int) ≤ (c : Int) := by omega
      have hk3 : k ≤ c := by omega
      have hbw : b < wr.heap.size := by omega
      obtain ⟨W2, hW2⟩ : ∃ W2, wr.alloc x.obj = W2 := ⟨_, rfl⟩
      have hs2 : W2.heap.size = wr.heap.size + 1 := by rw [← hW2]; simp
      have hF2 : Below wr.heap.size wr W2 := by rw [← hW2]; exact (Below.refl _ wr).alloc (Nat.le_refl _) _
      have L2 := (show Later (Lc wr.heap.size x) W2 from by rw [← hW2]; exact later_lc wr x)
      have hB2 : Below w.heap.size w W2 := HB.out.trans (hF2.mono hbz)
      have hx2 : IsLv w.heap.size W2 x := hxl.below (hF2.mono hbz)
      have CA := Lib.hid (always_any x hxs w.heap.size W2 (by omega) hx2)
      have HC := Lib.hid (fun (W : World) (hW : Below W2.heap.size W2 W) => containsL_any (fun y => oppLB y x.t3) 74 #[.pointer (some ⟨wr.heap.size, 0, none⟩)] eg (P.take k) w.heap.size (some ⟨b, o, none⟩) c W (by have := hW.size; omega) ((HP.out.below (hB2.trans (hW.mono (by omega)))).take k)
        (fun X t ht hX htl => taut1_any t x (HSZ.out t (List.mem_of_mem_take ht)) w.heap.size wr.heap.size X (by have := hW.size; have := hX.size; omega) htl (hx2.below ((hW.trans (hX.mono hW.size)).mono (by omega))) (by have := hW.size; have := hX.size; omega) (L2.mv (hW.trans (hX.mono hW.size))).now))
      rw [show (P.take k).length = k from by rw [List.length_take]; omega] at HC
      have HST := Lib.hid (HE.out.trans (tau_step hx))
      have HB2 := Lib.hid hB2
      have HL2 := Lib.hid L2
      obtain ⟨l0, l1, l2, l3, l4⟩ := L2.now
      clear hx hxl hF2 L2 hB2 hx2 eg
      go_wp2_with fail
      refine CA.out.mono ?_
      rintro e w3 ⟨rfl, hb3⟩
      have HB3 := Lib.hid hb3
      have hz3 := hb3.size
      clear hb3 CA l0 l1 l2 l3 l4 hW2
      have HTL := Lib.hid (show trueL x.t3 = (!x.n && sameB x.l x.r) from rfl)
      obtain ⟨q, hq⟩ : ∃ q, (!x.n && sameB x.l x.r) = q := ⟨_, rfl⟩
      have HQ := Lib.hid (HTL.out.trans hq)
      rw [hq]
      clear hq HTL
      cases q with
      | true =>
        have HR := Lib.hid (show tauC (t3s P) = true from by rw [HST.out, HQ.out]; rfl)
        go_wp2
        go_ret
        exact ⟨by rw [HR.out]; rfl, HB2.out.trans (HB3.out.mono HB2.out.size)⟩
      | false =>
        go_wp2_with fail
        refine (HC.out w3 HB3.out).mono ?_
        rintro e w4 ⟨rfl, hb4⟩
        have HB4 := Lib.hid ((HB2.out.trans (HB3.out.mono HB2.out.size)).trans (hb4.mono (by omega)))
        clear hb4 HC
        obtain ⟨q2, hq2⟩ : ∃ q2, (t3s (P.take k)).any (fun y => oppLB y x.t3) = q2 := ⟨_, rfl⟩
        have HQ2 := Lib.hid hq2
        rw [hq2]
        clear hq2
        cases q2 with
        | true =>
          have HR := Lib.hid (show tauC (t3s P) = true from by rw [HST.out, HQ.out, HQ2.out]; rfl)
          go_wp2
          go_ret
          exact ⟨by rw [HR.out]; rfl, HB4.out⟩
        | false =>
          have HR := Lib.hid (show tauC (t3s P) = tauP ((t3s P).take (k + 1)) ((t3s P).drop (k + 1)) from by rw [HST.out, HQ.out, HQ2.out]; rfl)
          go_wp2
          go_roundw
          case rel => exact ⟨k + 1, by omega, by go_num, HR.out, HB4.out⟩
          case measure => simp [intOf]; omega
    · obtain rfl : k = P.length := by omega
      have HR := Lib.hid (show tauC (t3s P) = false from by rw [HE.out, List.drop_of_length_le (by simp)]; rfl)
      go_wp2
      go_ret
      exact ⟨by rw [HR.out]; rfl, HB.out⟩

end Go.Proofs.YtbdabdjpgmnejaaGreat
