/- Contracts of the reference's Put, Term and Args. -/
import Derived.Test.YtkejacodofmlhaaRBq
import Derived.Test.YtkejacodofmlhaaBkF
import Derived.Test.YtkejacodofmlhaaRCk
import Derived.Deep.AppendLies
namespace Go.Proofs.Ytkejacodofmlhaa
set_option linter.unusedVariables false
set_option linter.unusedSimpArgs false
open Go.RowKit Go.Maps

def RUPost (B : Nat) (G : Nat → Prop) (rb : Nat) (v : Value) (L : List T) (t : T) (w : World) (e : Ending) (w' : World) : Prop :=
  e = .returned (putV L t) ∧ ∃ v', RBv B (Fw G w w') w' rb v' (putL L t) ∧ RS rb v w v' w'

set_option maxRecDepth 100000 in
set_option maxHeartbeats 4000000 in
theorem refPutM_any (B : Nat) (G ok : Nat → Prop) (rb : Nat) (v : Value) (L : List T) (t : T) (ht : t.size ≤ 1000000000000) (a : Option Addr) (c : Nat) (w : World) (hL : ∀ u ∈ L, u.size ≤ 1000000000000) (hL4 : L.length ≤ 4096) (hB : B ≤ w.heap.size) (hG : RBv B G w rb v L) (hGl : ∀ i, G i → i < w.heap.size)
    (hok : ∀ b, ok b → b < w.heap.size ∧ b ≠ rb ∧ v.ownBlock ≠ some b) (hwf : (Lit.int .i64 t.head).wf = true) (hA : IsArgsp ok w t.args a c) :
    Calls Try.prog 16 #[.pointer (some ⟨rb, 0, none⟩), tm t.head a t.args.length c] w (RUPost B G rb v L t w) := by
  have hA0 := hA.toArgs (n := w.heap.size) (fun b hb => (hok b hb).1)
  have hb1 : Below w.heap.size w (w.alloc (tmCells t.head a t.args.length c)) := (Below.refl _ _).alloc (Nat.le_refl _) _
  have CC := Lib.hid (refRight_any t ht w.heap.size a c _ (by simp) (hA0.below hb1))
  have KB := Lib.hid (show ∀ W, Below (w.alloc (tmCells t.head a t.args.length c)).heap.size (w.alloc (tmCells t.head a t.args.length c)) W → W.cell? ⟨w.heap.size, 0, none⟩ = some (.int .i64 t.head) ∧ W.cell? ⟨w.heap.size, 1, none⟩ = some (.slice a t.args.length c) from fun W hW =>
    ⟨Mm.cell_via hW (by simp) (by simp [go_sem]), Mm.cell_via hW (by simp) (by simp [go_sem])⟩)
  have HB1 := Lib.hid hb1
  have HG := Lib.hid hG
  have HA := Lib.hid hA
  have HGL := Lib.hid hGl
  have HOK := Lib.hid hok
  have HL := Lib.hid hL
  have HWF := Lib.hid hwf
  clear hA0 hb1 hG hA hGl hok hL hwf
  go_enter Try.func16, Try.ntmps16
  go_wp2_with fail
  refine CC.out.mono ?_
  rintro e w2 ⟨rfl, hb2⟩
  obtain ⟨p0, p1⟩ := KB.out w2 hb2
  have hbw := HB1.out.trans (hb2.mono HB1.out.size)
  have HB2 := Lib.hid hbw
  have hz2 := hbw.size
  clear hb2 CC KB
  by_cases hc : t.check = 0
  · rw [decide_eq_true hc]
    have CP := refPut6_any t.size t (Nat.le_refl _) ht B (Fw G w w2) ok rb v L a c w2 HL.out hL4 (by omega) ((HG.out.later hbw).mono (fun i hi => .inl hi)) (fun i hi => by
      rcases hi with hi | hi
      · have := HGL.out i hi; omega
      · omega) (fun b hb => ⟨by have := (HOK.out b hb).1; omega, (HOK.out b hb).2⟩) HWF.out (HA.out.keep (fun b hb => hbw.block b (HOK.out b hb).1) (fun _ h => h))
    unfold RPPost at CP
    obtain ⟨x, y, hxy⟩ : ∃ x y : Int, numR (pt L t).2 = .tuple #[.int .i64 x, .int .i64 y] := ⟨_, _, rfl⟩
    rw [hxy] at CP
    have CP' := Lib.hid CP
    have HXY := Lib.hid hxy
    have HC := Lib.hid hc
    clear CP hxy hc hbw
    go_wp2_with fail
    refine CP'.out.mono ?_
    rintro e w3 ⟨rfl, v3, hI3, hS3⟩
    have HI3 := Lib.hid hI3
    have HS3 := Lib.hid hS3
    clear hI3 hS3 CP'
    go_wp2
    go_ret2
    unfold RUPost putV putL
    rw [if_pos HC.out, if_pos HC.out, HXY.out]
    refine ⟨rfl, v3, HI3.out.mono (fun i hi => ?_), (RS.later HB2.out).trans HS3.out⟩
    have hz3 := HS3.out.size
    rcases hi with (hi | hi) | hi
    · exact .inl hi
    · exact .inr (by omega)
    · exact .inr (by omega)
  · rw [decide_eq_false hc]
    have HC := Lib.hid hc
    clear hc hbw
    go_wp2
    go_ret2
    unfold RUPost putV putL
    rw [if_neg HC.out, if_neg HC.out]
    exact ⟨rfl, v, (HG.out.later HB2.out).mono (fun i hi => .inl hi), RS.later HB2.out⟩

/-! ### Term -/
def RTPost (G : Nat → Prop) (L : List T) (id : Int) (w : World) (e : Ending) (w' : World) : Prop :=
  (chkI L.length id = 0 ∧ ∃ t a c, L[id.toNat]? = some t ∧ e = .returned (.tuple #[tm t.head a t.args.length c, .int .i64 0]) ∧ IsArgsp (fun b => G b ∧ b < w.heap.size) w' t.args a c ∧ Below w.heap.size w w') ∨
    (chkI L.length id = 6 ∧ e = .returned (.tuple #[tm 0 none 0 0, .int .i64 6]) ∧ Below w.heap.size w w')

set_option maxRecDepth 100000 in
set_option maxHeartbeats 4000000 in
theorem refTerm_any (B : Nat) (G : Nat → Prop) (rb : Nat) (L : List T) (id : Int) (w : World) (hG : RBk B G w rb L) :
    Calls Try.prog 20 #[.pointer (some ⟨rb, 0, none⟩), .int .i64 id] w (RTPost G L id w) := by
  obtain ⟨sa, sc, g0⟩ := hG.len
  have hrb := hG.lt
  have hb1 : Below w.heap.size w (w.alloc (tmCells 0 none 0 0)) := (Below.refl _ _).alloc (Nat.le_refl _) _
  have HB1 := Lib.hid hb1
  rcases chk_cases L.length id with ⟨hc, h0, hlt⟩ | ⟨hc, hbad⟩
  · obtain ⟨g, cap, u, au, cu, r0, hg, hc1, hc2, hu, huw, d0, d1, hAu⟩ := hG.elem hlt
    obtain ⟨i, rfl⟩ := Int.eq_ofNat_of_zero_le h0
    simp only [Int.toNat_natCast] at hlt hu d0 d1
    have hi1 : (i : Int) < (L.length : Int) := by omega
    have hi2 : decide ((i : Int) < 0) = false := decide_eq_false (by omega)
    have hi3 : decide (L.length ≤ i) = false := decide_eq_false (by omega)
    unfold maxLen at hc2
    have HU := Lib.hid hu
    have HAU := Lib.hid hAu
    have HC := Lib.hid hc
    clear hG hu hAu hc g0 hb1 huw
    go_enter Try.func20, Try.ntmps20
    go_wp2
    refine bodyPost_ret (v := .tuple #[tm u.head au u.args.length cu, .int .i64 0]) (by simp [results, Try.results20, go_sem]) rfl (.inl ⟨HC.out, u, au, cu, by simpa using HU.out, rfl, ?_, ?_⟩)
    · refine HAU.out.keep (fun b hb => Below.heap_alloc _ _ _ hb.2) (fun _ h => h)
    · exact (Below.refl _ _).alloc (Nat.le_refl _) _
  · have HC := Lib.hid hc
    have hbad' : id < 0 ∨ 0 ≤ id ∧ (L.length : Int) ≤ id := by omega
    clear hG hc hbad hb1
    rcases hbad' with hbad | ⟨hb0, hbad⟩
    · go_enter Try.func20, Try.ntmps20
      go_wp2
      refine bodyPost_ret (v := .tuple #[tm 0 none 0 0, .int .i64 6]) (by simp [results, Try.results20, go_sem]) rfl (.inr ⟨HC.out, rfl, ?_⟩)
      exact HB1.out
    · have hi2 : decide (id < 0) = false := decide_eq_false (by omega)
      have hi3 : decide ((L.length : Int) ≤ id) = true := decide_eq_true (by omega)
      go_enter Try.func20, Try.ntmps20
      go_wp2
      refine bodyPost_ret (v := .tuple #[tm 0 none 0 0, .int .i64 6]) (by simp [results, Try.results20, go_sem]) rfl (.inr ⟨HC.out, rfl, ?_⟩)
      exact HB1.out

end Go.Proofs.Ytkejacodofmlhaa
