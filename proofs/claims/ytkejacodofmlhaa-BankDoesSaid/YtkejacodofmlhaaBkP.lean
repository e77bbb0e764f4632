/- Contracts of the bank's Put and Find. -/
import Derived.Test.YtkejacodofmlhaaBkM
import Derived.Test.YtkejacodofmlhaaRCk
namespace Go.Proofs.Ytkejacodofmlhaa
set_option linter.unusedVariables false
set_option linter.unusedSimpArgs false
open Go.RowKit Go.Maps

/-! ### Valid terms -/
theorem depth_arg {ts : List T} {i : Nat} {s : T} (h : ts[i]? = some s) : s.depth ≤ T.depths ts := by
  induction ts generalizing i with
  | nil => simp at h
  | cons t ts ih =>
    simp only [T.depths]
    rcases i with _ | i
    · simp at h; subst h; omega
    · have := ih (i := i) (by simpa using h); omega
theorem bads_get {l : Nat} {ts : List T} (h : bad (T.subss l ts) = false) {i : Nat} {s : T} (hi : ts[i]? = some s) : bad (T.subs 1 s) = false := by
  induction ts generalizing i with
  | nil => simp at hi
  | cons t ts ih =>
    simp only [bad, T.subss, List.any_append, Bool.or_eq_false_iff] at h
    rcases i with _ | i
    · simp at hi; subst hi; rw [bad_level 1 l]; exact h.1
    · exact ih (by simpa only [bad] using h.2) (i := i) (by simpa using hi)
theorem check_zero {t : T} : t.check = 0 ↔ t.size ≤ 400 ∧ t.depth ≤ 40 ∧ bad (T.subs 1 t) = false := by
  unfold T.check
  constructor
  · intro h
    split at h
    · cases h
    · split at h
      · cases h
      · split at h
        · cases h
        · rename_i a b c
          exact ⟨by omega, by omega, by simpa using c⟩
  · rintro ⟨h1, h2, h3⟩
    rw [if_neg (by omega), if_neg (by omega), if_neg (by simp [h3])]
theorem check_arg {t : T} (h : t.check = 0) {i : Nat} {s : T} (hi : t.args[i]? = some s) : s.check = 0 := by
  obtain ⟨h1, h2, h3⟩ := check_zero.1 h
  have hs := T.size_eq t
  have hd : t.depth = T.depths t.args + 1 := by cases t; rfl
  rw [bad_eq, Bool.or_eq_false_iff] at h3
  have := T.size_lt_of_mem hi
  have := depth_arg hi
  exact check_zero.2 ⟨by omega, by omega, bads_get h3.2 hi⟩
theorem okB_le {h : Int} {k : Nat} (hb : okB h k = true) : k ≤ 8 := by
  unfold okB at hb
  split at hb <;> simp at hb <;> omega
theorem nar_of_check : ∀ (N : Nat) (t : T), t.size ≤ N → t.check = 0 → nar t = true := by
  intro N
  induction N with
  | zero => intro t ht; have := T.size_pos t; omega
  | succ N ih =>
    intro t ht hc
    have h3 := (check_zero.1 hc).2.2
    rw [bad_eq, Bool.or_eq_false_iff] at h3
    have h8 := okB_le (h := t.head) (k := t.args.length) (by simpa using h3.1)
    have hn : ∀ (us : List T), T.sizes us ≤ N → (∀ (i : Nat) (s : T), us[i]? = some s → s.check = 0) → nars us = true := by
      intro us
      induction us with
      | nil => intro _ _; rfl
      | cons u us ihu =>
        intro hs hx
        simp only [T.sizes] at hs
        simp only [nars, Bool.and_eq_true]
        exact ⟨ih u (by omega) (hx 0 u rfl), ihu (by omega) (fun i s h => hx (i + 1) s (by simpa using h))⟩
    have := hn t.args (by have := T.size_eq t; omega) (fun i s h => check_arg hc h)
    cases t
    simp only [nar, Bool.and_eq_true, decide_eq_true_eq]
    exact ⟨h8, this⟩

mutual
theorem wfT_of {ok : Nat → Prop} {w : World} : (t : T) → ∀ {b o : Nat}, IsTp ok w t b o → wfT t = true
  | .node h ts, b, o, ht => by
    simp only [IsTp] at ht
    obtain ⟨h0, _, a, c, _, _, _, h5⟩ := ht
    simp only [wfT, Bool.and_eq_true]
    refine ⟨h0, ?_⟩
    rcases h5 with rfl | ⟨b', o', _, _, h6⟩
    · rfl
    · exact wfTs_of ts h6
theorem wfTs_of {ok : Nat → Prop} {w : World} : (ts : List T) → ∀ {b o : Nat}, IsRowp ok w ts b o → wfTs ts = true
  | [], b, o, _ => rfl
  | t :: ts, b, o, h => by
    simp only [IsRowp] at h
    simp only [wfTs, Bool.and_eq_true]
    exact ⟨wfT_of t h.1, wfTs_of ts h.2⟩
end
theorem wfT_args {ok : Nat → Prop} {w : World} {t : T} {a : Option Addr} {c : Nat} (hw : (Lit.int .i64 t.head).wf = true) (h : IsArgsp ok w t.args a c) : wfT t = true := by
  obtain ⟨_, _, h3⟩ := h
  have : wfTs t.args = true := by
    rcases h3 with h3 | ⟨b, o, _, _, h3⟩
    · rw [h3]; rfl
    · exact wfTs_of _ h3
  cases t
  simp only [wfT, Bool.and_eq_true]
  exact ⟨hw, this⟩

/-! ### Put -/
structure FrS (F : Nat → Prop) (w w' : World) : Prop where
  os : w'.os = w.os
  tape : w'.tape = w.tape
  output : w'.output = w.output
  size : w.heap.size ≤ w'.heap.size
  block : ∀ i, i < w.heap.size → ¬ F i → w'.heap[i]? = w.heap[i]?
theorem FrS.of_below {F : Nat → Prop} {w w' : World} (h : Below w.heap.size w w') : FrS F w w' := ⟨h.os, h.tape, h.output, h.size, fun i hi _ => h.block i hi⟩
theorem FrS.trans {F F' : Nat → Prop} {a b c : World} (h : FrS F a b) (k : FrS F' b c) (hF : ∀ i, i < a.heap.size → F' i → F i) : FrS F a c :=
  ⟨k.os.trans h.os, k.tape.trans h.tape, k.output.trans h.output, Nat.le_trans h.size k.size, fun i hi hn => (k.block i (Nat.lt_of_lt_of_le hi h.size) (fun e => hn (hF i hi e))).trans (h.block i hi hn)⟩
theorem FrS.below {F : Nat → Prop} {w w' : World} (h : FrS F w w') {B : Nat} (hB : B ≤ w.heap.size) (ho : ∀ i, F i → B ≤ i) : Below B w w' :=
  ⟨h.os, h.tape, h.output, h.size, fun i hi => h.block i (by omega) (fun e => by have := ho i e; omega)⟩

def putV (L : List T) (t : T) : Value := if t.check = 0 then numR (pt L t).2 else .tuple #[.int .i64 0, .int .i64 1]
def putL (L : List T) (t : T) : List T := if t.check = 0 then (pt L t).1 else L
def Fw (F : Nat → Prop) (w w' : World) (i : Nat) : Prop := F i ∨ (w.heap.size ≤ i ∧ i < w'.heap.size)
def PutPost (B : Nat) (F : Nat → Prop) (bb : Nat) (L : List T) (t : T) (w : World) (e : Ending) (w' : World) : Prop :=
  e = .returned (putV L t) ∧ BankAt B (Fw F w w') w' bb (putL L t) ∧ FrS F w w'

theorem check_ne {t : T} : (t.check = 1 ∨ t.check = 2 ∨ t.check = 7 ∨ t.check = 0) := by
  unfold T.check
  split
  · exact .inr (.inl rfl)
  · split
    · exact .inr (.inr (.inl rfl))
    · split
      · exact .inl rfl
      · exact .inr (.inr (.inr rfl))

set_option maxRecDepth 100000 in
set_option maxHeartbeats 4000000 in
theorem put_any (B : Nat) (F ok : Nat → Prop) (bb : Nat) (L : List T) (t : T) (ht : t.size ≤ 1000000000000) (a : Option Addr) (c : Nat) (w : World) (hB : B ≤ w.heap.size) (hG : BankAt B F w bb L) (hok : ∀ b, ok b → b < w.heap.size ∧ ¬ F b) (hwf : (Lit.int .i64 t.head).wf = true) (hA : IsArgsp ok w t.args a c) :
    Calls Try.prog 15 #[.pointer (some ⟨bb, 0, none⟩), tm t.head a t.args.length c] w (PutPost B F bb L t w) := by
  have hA0 := hA.toArgs (n := w.heap.size) (fun b hb => (hok b hb).1)
  have hb1 : Below w.heap.size w (w.alloc (tmCells t.head a t.args.length c)) := (Below.refl _ _).alloc (Nat.le_refl _) _
  have CC := Lib.hid (check_any t ht w.heap.size a c _ (by simp) hwf (hA0.below hb1))
  have HB1 := Lib.hid hb1
  have hwt := wfT_args hwf hA
  have r0 : ∀ W, Below (w.alloc (tmCells t.head a t.args.length c)).heap.size (w.alloc (tmCells t.head a t.args.length c)) W → W.cell? ⟨w.heap.size, 0, none⟩ = some (.int .i64 t.head) ∧ W.cell? ⟨w.heap.size, 1, none⟩ = some (.slice a t.args.length c) := fun W hW =>
    ⟨(hW.cell (p := ⟨w.heap.size, 0, none⟩) (by simp)).trans (by simp [go_sem]), (hW.cell (p := ⟨w.heap.size, 1, none⟩) (by simp)).trans (by simp [go_sem])⟩
  have HR := Lib.hid r0
  have HG := Lib.hid hG
  have HA := Lib.hid hA
  have HOK := Lib.hid hok
  have HWT := Lib.hid hwt
  have HWF := Lib.hid hwf
  clear r0 hG hA hok hA0 hb1 hwt hwf
  go_enter Try.func15, Try.ntmps15
  go_wp2_with fail
  refine CC.out.mono ?_
  rintro e w2 ⟨rfl, hb2⟩
  have hbw : Below w.heap.size w w2 := HB1.out.trans (hb2.mono HB1.out.size)
  obtain ⟨q0, q1⟩ := HR.out w2 hb2
  have HBW := Lib.hid hbw
  clear hb2 hbw CC
  by_cases hc : t.check = 0
  · obtain ⟨Tb, sv, M, rs, h1, h2, h3, h4, h5, h6, h7⟩ := HG.out
    have hbl := (Array.getElem?_eq_some_iff.1 h1).1
    have hbl2 : bb < w2.heap.size := Nat.lt_of_lt_of_le hbl HBW.out.size
    have c0 : w2.cell? ⟨bb, 0, none⟩ = some (.pointer (some ⟨Tb, 0, none⟩)) := (HBW.out.cell (p := ⟨bb, 0, none⟩) hbl).trans (by simp [World.cell?, h1])
    obtain ⟨k1, k2, k3, k4⟩ := kp_pt _ t (Nat.le_refl _) (nar_of_check _ t (Nat.le_refl _) hc) HWT.out h4
    have hbd : Below w.heap.size w w2.drew := HBW.out.drew
    have CK := Lib.hid (keep_any t.size t (Nat.le_refl _) (nar_of_check _ t (Nat.le_refl _) hc) ok B Tb M sv rs a c w2.drew (by have := HBW.out.size; show B ≤ w2.heap.size; omega) (h3.later hbd)
      (fun b hb => ⟨Nat.lt_of_lt_of_le (HOK.out b hb).1 hbd.size, fun e => (HOK.out b hb).2 (h5 b e)⟩) HWF.out (HA.out.keep (fun b hb => hbd.block b (HOK.out b hb).1) (fun _ h => h)))
    have H1 := Lib.hid h1
    have H3 := Lib.hid h3
    have H4 := Lib.hid h4
    have H5 := Lib.hid h5
    have H6 := Lib.hid h6
    have H7 := Lib.hid h7
    have K1 := Lib.hid k1
    have K2 := Lib.hid k2
    have HC := Lib.hid hc
    obtain ⟨x, y, hxy⟩ : ∃ x y : Int, numR (kp rs t).2 = .tuple #[.int .i64 x, .int .i64 y] := ⟨_, _, rfl⟩
    have CK' := CK.out
    unfold KPost at CK'
    rw [hxy] at CK'
    have CKK := Lib.hid CK'
    have HXY := Lib.hid hxy
    rw [hc]
    clear CK CK' hxy h1 h3 h4 h5 h6 h7 k1 k2 k3 k4 hc hbd
    go_wp2
    go_region_law (first | (go_simp; go_at_call 37; refine CKK.out.mono ?_; rintro e w3 ⟨rfl, sv3, hI3, hS3⟩))
    all_goals
      have HI3 := Lib.hid hI3
      have HS3 := Lib.hid hS3
      clear hI3 hS3
      go_wp2
      go_ret2
      have hS := (KStep.later (Tb := Tb) (M := M) (sv := sv) HBW.out.drew).trans HS3.out
      unfold PutPost putV putL
      rw [if_pos HC.out, if_pos HC.out, ← K1.out, HXY.out]
      refine ⟨rfl, ⟨Tb, sv3, M, _, ?_, h2, HI3.out, K2.out, fun i hi => ?_, .inl H6.out, fun e => H7.out (hS.own bb hbl e)⟩, ⟨hS.os, hS.tape, hS.output, hS.size, fun i hi hn => hS.block i hi (fun e => hn (H5.out i e))⟩⟩
      · exact (hS.block bb hbl H7.out).trans H1.out
      · rcases Nat.lt_or_ge i w.heap.size with h | h
        · exact .inl (H5.out i (hS.own i h hi))
        · exact .inr ⟨h, HI3.out.own_lt hi⟩
  · have HC := Lib.hid hc
    have hne : (t.check != 0) = true := by simpa using hc
    clear hc
    go_wp2
    go_ret2
    unfold PutPost putV putL
    rw [if_neg HC.out, if_neg HC.out]
    exact ⟨rfl, (HG.out.later HBW.out).mono (fun i hi => .inl hi), FrS.of_below HBW.out⟩

end Go.Proofs.Ytkejacodofmlhaa
