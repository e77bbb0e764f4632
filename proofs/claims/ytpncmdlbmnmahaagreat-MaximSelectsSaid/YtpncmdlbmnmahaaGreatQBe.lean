/- QBe: joined of SgC, Cl0, RCp0, Mem, Hd0, Wg0, Wpl, Kb. -/
import Derived.Test.YtpncmdlbmnmahaaGreatQBd
import Derived.Test.YtpncmdlbmnmahaaGreatQBb
import Derived.Test.YtpncmdlbmnmahaaGreatSub
import Derived.Lib.SliceRun
import Derived.Test.YtpncmdlbmnmahaaGreatQBa
import Derived.Deep.AppendLies
import Derived.Deep.RegionLaw
import Derived.Maps.OwnSet
import Derived.Deep.OwnRows
import Derived.IntWalk
import Derived.Test.YtpncmdlbmnmahaaGreatQBc
import Derived.Maps.RangeWalk
import Derived.Lib.QuietBelow
import Derived.Deep.QuietTactic
import Derived.BigQuiet
/- Contract of weigh's Term. -/
namespace Go.Proofs.YtpncmdlbmnmahaaGreat
set_option linter.unusedVariables false
set_option linter.unusedSimpArgs false
open Go.RowKit
theorem fits_args {g : Sg} {t : T} (hf : fitsT g t = true) (hb : bad (T.subs 1 t) = false) : ∀ s ∈ t.args, fitsT g s = true ∧ bad (T.subs 1 s) = false := by
  intro s hs
  obtain ⟨k, hk⟩ := List.getElem?_of_mem hs
  refine ⟨?_, good_arg hb hk⟩
  rw [fitsT_eq] at hf
  simp only [Bool.or_eq_true, decide_eq_true_eq, Bool.and_eq_true, fitsL_all, List.all_eq_true] at hf
  rcases hf with h | h
  · rw [good_var hb h] at hs; simp at hs
  · exact h.2 s hs
set_option maxRecDepth 100000 in
set_option maxHeartbeats 2000000 in
theorem sgTerm_any (g : Sg) (t : T) (hsz : t.size ≤ 1000000000000) (n₀ : Nat) (ga : Option Addr) (gc : Nat) (a : Option Addr) (c : Nat) (w : World) (hn : n₀ ≤ w.heap.size) (hG : IsSg n₀ w g ga gc) (hwf : (Lit.int .i64 t.head).wf = true) (hA : IsArgs n₀ w t.args a c) :
    Calls Tryz.prog 71 #[.slice ga g.length gc, tm t.head a t.args.length c] w fun e w' => e = .returned (.int .i64 (errT g t)) ∧ Below w.heap.size w w' := by
  obtain ⟨W1, hW1⟩ : ∃ W1, w.alloc (tmCells t.head a t.args.length c) = W1 := ⟨_, rfl⟩
  have hF1 : Below w.heap.size w W1 := by rw [← hW1]; exact (Below.refl _ w).alloc (Nat.le_refl _) _
  have HF1 := Lib.hid hF1
  have LT := Lib.hid (show Later (fun X => Vc w.heap.size t.head a t.args.length c X) W1 from by rw [← hW1]; exact later_var w _ _ _ _)
  have CC := Lib.hid (fun (W : World) (hW : Below w.heap.size w W) => sgCheck_any g n₀ ga gc W (Nat.le_trans hn hW.size) (hG.below (hW.mono hn)))
  have CK := Lib.hid (fun (W : World) (hW : Below w.heap.size w W) => check_any t hsz n₀ a c W (Nat.le_trans hn hW.size) hwf (hA.below (hW.mono hn)))
  have CF := Lib.hid (fun (W : World) (hW : Below w.heap.size w W) => fits_any g t.size t (Nat.le_refl _) n₀ ga gc a c W (Nat.le_trans hn hW.size) (hG.below (hW.mono hn)) hwf (hA.below (hW.mono hn)))
  have CP := Lib.hid (fun (hall : ∀ s ∈ t.args, fitsT g s = true ∧ bad (T.subs 1 s) = false) (W : World) (hW : Below w.heap.size w W) => predicate_any g (T.sizes t.args) t.args (Nat.le_refl _) hall n₀ ga gc a c W (Nat.le_trans hn hW.size) (hG.below (hW.mono hn)) (hA.below (hW.mono hn)))
  clear hF1 hG hA
  go_enter Tryz.func71, Tryz.ntmps71
  go_wp2_with fail
  refine (CC.out _ HF1.out).mono ?_
  rintro e w2 ⟨rfl, hb2⟩
  have hB2 : Below w.heap.size w w2 := HF1.out.trans (hb2.mono HF1.out.size)
  have LT2 := Lib.hid (LT.out.mv hb2)
  have HB2 := Lib.hid hB2
  clear hb2 hB2 LT hW1
  cases hr : rightG g with
  | false =>
    have h1 : errG g = 1 := by unfold errG; rw [hr]; rfl
    have HE := Lib.hid (show errT g t = 1 from by unfold errT; rw [hr]; rfl)
    rw [h1]
    clear h1 hr
    go_wp2
    go_ret
    exact ⟨by rw [HE.out]; rfl, HB2.out⟩
  | true =>
    have h1 : errG g = 0 := by unfold errG; rw [hr]; rfl
    have HR := Lib.hid hr
    rw [h1]
    clear h1 hr
    have hv := LT2.out.now
    obtain ⟨hv0, hv1⟩ := hv
    go_wp2_with fail
    refine (CK.out _ HB2.out).mono ?_
    rintro e w3 ⟨rfl, hb3⟩
    have HB3 := Lib.hid (HB2.out.trans (hb3.mono HB2.out.size))
    have LT3 := Lib.hid (LT2.out.mv hb3)
    clear hb3 LT2 hv0 hv1
    by_cases hc : t.check = 0
    · have HC := Lib.hid hc
      rw [hc]
      have hv := LT3.out.now
      obtain ⟨hv0, hv1⟩ := hv
      clear hc
      go_wp2_with fail
      refine (CF.out _ HB3.out).mono ?_
      rintro e w4 ⟨rfl, hb4⟩
      have HB4 := Lib.hid (HB3.out.trans (hb4.mono HB3.out.size))
      have LT4 := Lib.hid (LT3.out.mv hb4)
      clear hb4 LT3 hv0 hv1
      cases hf : fitsT g t with
      | false =>
        have HE := Lib.hid (show errT g t = 1 from by unfold errT; rw [HR.out, HC.out, hf]; rfl)
        clear hf
        go_wp2
        go_ret
        exact ⟨by rw [HE.out]; rfl, HB4.out⟩
      | true =>
        have hall := fits_args hf (check_ok HC.out).2.2
        have CQ := Lib.hid (CP.out hall w4 HB4.out)
        have HF := Lib.hid hf
        clear hf hall
        have hv := LT4.out.now
        obtain ⟨hv0, hv1⟩ := hv
        go_wp2_with fail
        refine CQ.out.mono ?_
        rintro e w5 ⟨rfl, hb5⟩
        have HB5 := Lib.hid (HB4.out.trans (hb5.mono HB4.out.size))
        clear hb5 LT4 hv0 hv1
        cases hp : predL g t.args with
        | false =>
          have HE := Lib.hid (show errT g t = 0 from by unfold errT; rw [HR.out, HC.out, HF.out, hp]; rfl)
          clear hp
          go_wp2
          go_ret
          exact ⟨by rw [HE.out]; rfl, HB5.out⟩
        | true =>
          have HE := Lib.hid (show errT g t = 10 from by unfold errT; rw [HR.out, HC.out, HF.out, hp]; rfl)
          clear hp
          go_wp2
          go_ret
          exact ⟨by rw [HE.out]; rfl, HB5.out⟩
    · have HE := Lib.hid (show errT g t = t.check from by unfold errT; rw [HR.out]; simp [hc])
      obtain ⟨k, hk⟩ : ∃ k, t.check = k := ⟨_, rfl⟩
      have hk0 : (k != 0) = true := by rw [← hk]; simpa using hc
      rw [hk]
      have HK := Lib.hid hk
      clear hc hk
      go_wp2
      go_ret
      exact ⟨by rw [HE.out, HK.out]; rfl, HB3.out⟩
end Go.Proofs.YtpncmdlbmnmahaaGreat

/- Rows of terms in blocks of their own. -/
namespace Go.Proofs.YtpncmdlbmnmahaaGreat
set_option linter.unusedVariables false
set_option linter.unusedSimpArgs false
open Go.RowKit
theorem infoTerm : (Tryz.prog.info? 42).map (fun i => (i.zero, i.size, i.bytes)) = some (some (.agg #[.int .i64 0, .slice none 0 0]), 2, 32) := by kernel_rfl
/-- A slice of terms in a block of its own, not below lo, that begins with the slice. -/
def NewRow (n₀ lo : Nat) (w : World) (ts : List T) (a : Option Addr) (c : Nat) : Prop :=
  ts.length ≤ c ∧ c ≤ maxLen ∧ (ts = [] ∨ ∃ g cur, a = some ⟨g, 0, none⟩ ∧ lo ≤ g ∧ w.heap[g]? = some (.cells cur 42 (0, 0)) ∧ cur.size = c * 2 ∧ IsRow n₀ w ts g 0)
theorem row_cells {n₀ : Nat} {w : World} : ∀ (ts : List T) (b o : Nat), IsRow n₀ w ts b o → ∃ news : List Value, news.length = ts.length * 2 ∧ (∀ j u, news[j]? = some u → w.cell? ⟨b, o + j, none⟩ = some u) ∧ (∀ u ∈ news, u.oneCell' = true) ∧
    ∀ (W : World) (g q : Nat), Below n₀ w W → (∀ j u, news[j]? = some u → W.cell? ⟨g, q + j, none⟩ = some u) → IsRow n₀ W ts g q := by
  intro ts
  induction ts with
  | nil => intro b o _; exact ⟨[], rfl, by simp, by simp, fun _ _ _ _ _ => trivial⟩
  | cons t ts ih =>
    intro b o h
    simp only [IsRow] at h
    obtain ⟨ht, hr⟩ := h
    obtain ⟨news, hl, hc, h1, hW⟩ := ih b (o + 2) hr
    obtain ⟨wf, p1, a, c, p2, hA⟩ := isT_iff.1 ht
    refine ⟨.int .i64 t.head :: .slice a t.args.length c :: news, by simp [hl]; omega, ?_, ?_, ?_⟩
    · intro j u hj
      match j, hj with
      | 0, hj => simp at hj; subst hj; exact p1
      | 1, hj => simp at hj; subst hj; exact p2
      | j + 2, hj => rw [show o + (j + 2) = o + 2 + j from by omega]; exact hc j u (by simpa using hj)
    · intro u hu
      simp at hu
      rcases hu with rfl | rfl | hu
      · rfl
      · rfl
      · exact h1 u hu
    · intro W g q hB hcell
      simp only [IsRow]
      refine ⟨isT_iff.2 ⟨wf, by simpa using hcell 0 _ rfl, a, c, hcell 1 _ rfl, hA.below hB⟩, hW W g (q + 2) hB (fun j u hj => ?_)⟩
      rw [show q + 2 + j = q + (j + 2) from by omega]
      exact hcell (j + 2) u (by simpa using hj)
def ClonePost (n₀ : Nat) (ts : List T) (w : World) (e : Ending) (w' : World) : Prop := ∃ a2 c2, e = .returned (.slice a2 ts.length c2) ∧ NewRow n₀ w.heap.size w' ts a2 c2 ∧ Below w.heap.size w w'
theorem newRow_of_owns {n₀ base : Nat} {w w' : World} {v : Value} {ts : List T} {news : List Value} (hb : Below n₀ w w') (hown : w'.ownsRow base 42 2 v ts.length news)
    (hW : ∀ (W : World) (g q : Nat), Below n₀ w W → (∀ j u, news[j]? = some u → W.cell? ⟨g, q + j, none⟩ = some u) → IsRow n₀ W ts g q) : ∃ a2 c2, v = .slice a2 ts.length c2 ∧ NewRow n₀ base w' ts a2 c2 := by
  have hcells := fun g hg => hown.cells (g := g) hg
  rcases hown.2 with ⟨rfl, h0⟩ | ⟨g, cap, cur, rfl, hg, hh, hn, hc, hs, _⟩
  · exact ⟨none, 0, by rw [h0], by omega, by simp [maxLen], .inl (List.eq_nil_of_length_eq_zero h0)⟩
  · refine ⟨_, cap, rfl, hn, hc, .inr ⟨g, cur, rfl, hg, hh, hs, hW w' g 0 hb (fun j u hj => ?_)⟩⟩
    have := hcells g rfl j u hj
    rw [show ((⟨g, 0, none⟩ : Addr).add j) = ⟨g, 0 + j, none⟩ from by unfold Addr.add; split <;> simp_all] at this
    exact this
end Go.Proofs.YtpncmdlbmnmahaaGreat

/- RCp0: joined of RCp0, RPt0. -/
/- Copies: what they are, a step. -/
namespace Go.Proofs.YtpncmdlbmnmahaaGreat
set_option linter.unusedVariables false
set_option linter.unusedSimpArgs false
open Go.RowKit
theorem ownsRow_later {w w' : World} {base : Nat} {e : TypeId} {size : Nat} {v : Value} {n : Nat} {xs : List Value} (h : w.ownsRow base e size v n xs) (hb : Below w.heap.size w w') : w'.ownsRow base e size v n xs :=
  h.kept (row := none) ⟨hb.os, hb.tape, hb.output, hb.size, fun k hk _ => hb.block k hk⟩ (by cases hv : v.ownBlock <;> simp)
theorem heap_setCell_same {w : World} {b o : Nat} {c : Array Value} {t : TypeId} {fr : Nat × Nat} (h : w.heap[b]? = some (.cells c t fr)) (u : Value) : (w.setCell ⟨b, o, none⟩ u).heap[b]? = some (.cells (c.setIfInBounds o u) t fr) := by
  unfold World.setCell
  show (w.heap.modify b _)[b]? = _
  rw [Array.getElem?_modify, if_pos rfl, h]
  rfl
end Go.Proofs.YtpncmdlbmnmahaaGreat
/- What the reference's put answers, a step. -/
namespace Go.Proofs.YtpncmdlbmnmahaaGreat
set_option linter.unusedVariables false
set_option linter.unusedSimpArgs false
open Go.RowKit
/-- What put answers: a term, whose blocks are old or new. -/
def RPutPost (x : T) (n₀ : Nat) (w : World) (e : Ending) (w' : World) : Prop :=
  ∃ a2 c2, e = .returned (tm x.head a2 x.args.length c2) ∧ (Lit.int .i64 x.head).wf = true ∧ IsArgsp (fun b => b < n₀ ∨ w.heap.size ≤ b ∧ b < w'.heap.size) w' x.args a2 c2 ∧ Below w.heap.size w w'
end Go.Proofs.YtpncmdlbmnmahaaGreat

/- Mem: plain lemmas on worlds, rows and terms in memory whose blocks meet a condition. -/
namespace Go.Proofs.YtpncmdlbmnmahaaGreat
set_option linter.unusedVariables false
set_option linter.unusedSimpArgs false
open Go.RowKit Go.Maps
namespace Mm
theorem rowBlock {w : World} {base : Nat} {e : TypeId} {size : Nat} {v : Value} {k : Nat} {xs : List Value} (h : w.ownsRow base e size v k xs) {b : Nat} (hb : v.ownBlock = some b) : base ≤ b ∧ b < w.heap.size ∧ ∃ cur, w.heap[b]? = some (.cells cur e (0, 0)) := by
  have hlt := h.lt b hb
  rcases h.2 with ⟨rfl, _⟩ | ⟨g, cap, cur, rfl, hg, hh, _⟩
  · cases hb
  · simp only [Value.ownBlock, Option.some.injEq] at hb
    subst hb
    exact ⟨hlt.1, hlt.2, cur, hh⟩
theorem ownsRow_kept {w w' : World} {base : Nat} {e : TypeId} {size : Nat} {v : Value} {k : Nat} {xs : List Value} (h : w.ownsRow base e size v k xs) (hb : ∀ b, v.ownBlock = some b → w'.heap[b]? = w.heap[b]?) : w'.ownsRow base e size v k xs := by
  obtain ⟨h1, h2⟩ := h
  refine ⟨h1, ?_⟩
  rcases h2 with h2 | ⟨g, cap, cur, rfl, p1, p2, p3⟩
  · exact .inl h2
  · exact .inr ⟨g, cap, cur, rfl, p1, (hb g rfl).trans p2, p3⟩
end Mm
theorem IsRowp.at {ok : Nat → Prop} {w : World} {ts : List T} {b o : Nat} (h : IsRowp ok w ts b o) {i : Nat} {t : T} (hi : ts[i]? = some t) : IsTp ok w t b (o + i * 2) := by
  induction ts generalizing o i with
  | nil => simp at hi
  | cons s ts ih =>
    simp only [IsRowp] at h
    cases i with
    | zero => simp at hi; subst hi; exact h.1
    | succ i =>
      have := ih h.2 (i := i) (by simpa using hi)
      rw [show o + (i + 1) * 2 = o + 2 + i * 2 from by omega]; exact this
theorem IsArgsp.elem {ok : Nat → Prop} {w : World} {ts : List T} {a : Option Addr} {c : Nat} (h : IsArgsp ok w ts a c) {i : Nat} (hi : i < ts.length) :
    ∃ (b o : Nat) (t : T) (a' : Option Addr) (c' : Nat), a = some ⟨b, o, none⟩ ∧ ok b ∧ ts[i]? = some t ∧ (Lit.int .i64 t.head).wf = true ∧ w.cell? ⟨b, o + i * 2, none⟩ = some (.int .i64 t.head) ∧
      w.cell? ⟨b, o + i * 2 + 1, none⟩ = some (.slice a' t.args.length c') ∧ IsArgsp ok w t.args a' c' := by
  obtain ⟨_, _, h3⟩ := h
  rcases h3 with rfl | ⟨b, o, rfl, h4, h5⟩
  · simp at hi
  · have ht := h5.at (List.getElem?_eq_getElem hi)
    obtain ⟨p0, p1, a', c', p2, p3⟩ := isTp_iff.1 ht
    exact ⟨b, o, _, a', c', rfl, h4, List.getElem?_eq_getElem hi, p0, p1, p2, p3⟩
end Go.Proofs.YtpncmdlbmnmahaaGreat

/- Heads of a term, maps of counts, and the stack: what names no function (split off Hd). -/
namespace Go.Proofs.YtpncmdlbmnmahaaGreat
set_option linter.unusedVariables false
set_option linter.unusedSimpArgs false
open Go.RowKit Go.Maps
mutual
def T.hds : T → List Int
  | .node h ts => h :: T.hdsL ts
def T.hdsL : List T → List Int
  | [] => []
  | t :: ts => t.hds ++ T.hdsL ts
end
theorem T.hds_eq (t : T) : t.hds = t.head :: T.hdsL t.args := by cases t; rfl
mutual
theorem T.hds_length : (t : T) → t.hds.length = t.size
  | .node h ts => by simp [T.hds, T.size, T.hdsL_length ts]; omega
theorem T.hdsL_length : (ts : List T) → (T.hdsL ts).length = T.sizes ts
  | [] => rfl
  | t :: ts => by simp [T.hdsL, T.sizes, T.hds_length t, T.hdsL_length ts]
end
theorem T.hdsL_drop {ts : List T} {i : Nat} {t : T} (h : ts[i]? = some t) : T.hdsL (ts.drop i) = t.hds ++ T.hdsL (ts.drop (i + 1)) := by
  obtain ⟨hi, e⟩ := List.getElem?_eq_some_iff.1 h
  rw [List.drop_eq_getElem_cons hi, e, T.hdsL]
theorem keyHd : Keyed Tryz.prog 3 := int_keyed Tryz.underlying3
theorem zeroHd (w : World) : (zeroValue 3).run Tryz.prog w = .ok (.int .i64 0) w := by kernel_rfl
def hwf (v : Int) : Prop := -9223372036854775808 ≤ v ∧ v ≤ 9223372036854775807
theorem hwf.wf {v : Int} (h : hwf v) : (Lit.int .i64 v).wf = true := WalkArith.wf_i64 h
theorem hwf_of {v : Int} (h : (Lit.int .i64 v).wf = true) : hwf v := by
  revert h
  intro hw
  show -9223372036854775808 ≤ v ∧ v ≤ 9223372036854775807
  simp [Lit.wf, IntKind.min, IntKind.max, IntKind.signed, IntKind.bits] at hw
  omega
/-- Block M is a map that tells of each number how often it stands in L. -/
def CntM (W : World) (M : Nat) (L : List Int) : Prop :=
  ∃ D : DataW Unit, W.ownsMap Tryz.prog 3 (plainElem Tryz.prog 3) M L.length D ∧ (∀ v, hwf v → Maps.has D (.int .i64 v) = decide (v ∈ L) ∧ (v ∈ L → ∀ z, D.atKey (.int .i64 v) z = .lit (.int .i64 (L.count v : Nat)))) ∧ ∀ v ∈ L, hwf v
theorem CntM.lt {W : World} {M : Nat} {L : List Int} (h : CntM W M L) : M < W.heap.size := by obtain ⟨D, h1, _⟩ := h; exact h1.lt
theorem CntM.kept {W W' : World} {M : Nat} {L : List Int} (h : CntM W M L) (hb : W'.heap[M]? = W.heap[M]?) : CntM W' M L := by
  obtain ⟨D, ⟨es, clock, hm, r⟩, h2⟩ := h
  exact ⟨D, ⟨es, clock, hb.trans hm, r⟩, h2⟩
theorem CntM.notCells {W : World} {M : Nat} {L : List Int} (h : CntM W M L) {cs : Array Value} {e : TypeId} {fz : Nat × Nat} : W.heap[M]? ≠ some (.cells cs e fz) := by
  obtain ⟨D, ⟨es, clock, hm, r⟩, h2⟩ := h
  rw [hm]; simp
theorem CntM.perm {W : World} {M : Nat} {L L' : List Int} (h : CntM W M L) (hp : L.Perm L') : CntM W M L' := by
  obtain ⟨D, h1, h2, h4⟩ := h
  refine ⟨D, by rw [← hp.length_eq]; exact h1, fun v hv => ?_, fun v hv => h4 v (hp.mem_iff.2 hv)⟩
  obtain ⟨q1, q2⟩ := h2 v hv
  refine ⟨by rw [q1]; simp [hp.mem_iff], fun hm z => ?_⟩
  rw [q2 (hp.mem_iff.2 hm) z, hp.count_eq]
theorem CntM.look {W : World} {M : Nat} {L : List Int} (h : CntM W M L) {v : Int} (hv : hwf v) :
    (Instr.lookup 132 (.map (some M)) (.int .i64 v) false).run Tryz.prog W = .ok (.int .i64 (L.count v : Nat)) W := by
  obtain ⟨D, h1, h3, h4⟩ := h
  have hkey := keyOf_int_mk (P := Tryz.prog) (k := 3) Tryz.underlying3 hv.wf
  obtain ⟨q1, q2⟩ := h3 v hv
  obtain ⟨c, hrun, hat, _⟩ := h1.lookup_int keyHd Tryz.underlying132 Tryz.underlying3 (zeroHd _) hkey
  rw [hrun]
  by_cases hm : v ∈ L
  · rw [q2 hm] at hat
    simp at hat
    rw [hat]
  · rw [Maps.atKey_of_not_has (by rw [q1]; simp [hm])] at hat
    simp at hat
    rw [← hat, List.count_eq_zero.2 hm]; rfl
theorem CntM.put {W : World} {M : Nat} {L : List Int} (h : CntM W M L) {v : Int} (hv : hwf v) (hn : L.length ≤ 1000000000000) :
    ∃ w', (Instr.mapUpdate 132 (.map (some M)) (.int .i64 v) (.int .i64 ((L.count v : Nat) + 1))).run Tryz.prog W = .ok () w' ∧ CntM w' M (v :: L) ∧ W.grownBy w' (some M) := by
  obtain ⟨D, h1, h3, h4⟩ := h
  have hkey := keyOf_int_mk (P := Tryz.prog) (k := 3) Tryz.underlying3 hv.wf
  have hcl : L.count v ≤ L.length := List.count_le_length
  have hwc : (Lit.int .i64 ((L.count v : Nat) + 1)).wf = true := WalkArith.wf_i64 ⟨by omega, by omega⟩
  obtain ⟨w', hrun, r1, r2⟩ := h1.update keyHd Tryz.underlying132 (by unfold maxLen; omega) hkey (plainElem_int (H := Unit) (P := Tryz.prog) Tryz.underlying3 hwc)
  have hM := h1.isMap
  refine ⟨w', hrun, ⟨_, r1, fun x hx => ?_, fun x hx => by rcases List.mem_cons.1 hx with rfl | hx; exact hv; exact h4 x hx⟩, r2⟩
  by_cases e : x = v
  · subst e
    refine ⟨by rw [Maps.has_put_same hM (show WideAt.IsKeyLit (.int .i64 x) from trivial)]; simp, fun _ z => ?_⟩
    rw [Maps.atKey_put_same (k := .int .i64 x) hM (show WideAt.IsKeyLit (.int .i64 x) from trivial) _ z]
    simp
  · have hne : Lit.int .i64 x ≠ Lit.int .i64 v := by intro e'; injection e' with _ e'; exact e e'
    refine ⟨by rw [Maps.has_put_other hne, (h3 x hx).1]; simp [e], fun hm z => ?_⟩
    rw [Maps.atKey_put_other hne, (h3 x hx).2 (by simpa [e] using hm) z, List.count_cons_of_ne (fun e' => e e'.symm)]
theorem CntM.made (w : World) : CntM (w.alloc (.map #[] 0)) w.heap.size [] :=
  ⟨.map [], World.ownsMap_made w Tryz.prog 3 (plainElem Tryz.prog 3), fun v _ => ⟨rfl, by simp⟩, by simp⟩
/-! ### The stack -/
abbrev Stk := List (List T × Option Addr × Nat)
def hvals (S : Stk) : List Value := S.map fun e => .slice e.2.1 e.1.length e.2.2
def hsum (S : Stk) : Nat := (S.map fun e => T.sizes e.1).sum
def hall (S : Stk) : List Int := (S.map fun e => T.hdsL e.1).flatten
theorem hall_length (S : Stk) : (hall S).length = hsum S := by
  induction S with
  | nil => rfl
  | cons e S ih => simp only [hall, hsum, List.map_cons, List.flatten_cons, List.sum_cons, List.length_append, T.hdsL_length] at ih ⊢; omega
theorem hsum_snoc (S : Stk) (e) : hsum (S ++ [e]) = hsum S + T.sizes e.1 := by simp [hsum]
theorem hall_snoc (S : Stk) (e) : hall (S ++ [e]) = hall S ++ T.hdsL e.1 := by simp [hall]
structure HdC (n₀ : Nat) (w : World) (M Bl base : Nat) (st : Value) (S : Stk) (L : List Int) (wr : World) : Prop where
  own : wr.ownsRow base 40 1 st S.length (hvals S)
  ents : ∀ e ∈ S, IsArgsp (fun b => b < n₀ ∨ b = Bl) wr e.1 e.2.1 e.2.2 ∧ e.1 ≠ []
  map : CntM wr M L
  below : Below w.heap.size w wr
  lt : Bl < wr.heap.size ∧ base ≤ wr.heap.size
theorem own_ge {w : World} {base n size : Nat} {e : TypeId} {v : Value} {xs : List Value} (ho : w.ownsRow base e size v n xs) {b : Nat} (h : v.ownBlock = some b) : base ≤ b := by
  rcases ho.2 with ⟨rfl, _⟩ | ⟨g, cap, cur, rfl, hb, _⟩
  · cases h
  · simp [Value.ownBlock] at h; omega
theorem hd_pop {w : World} {base : Nat} {e : TypeId} {g n cap : Nat} {xs : List Value} {x : Value} (h : w.ownsRow base e 1 (.slice (some ⟨g, 0, none⟩) (n + 1) cap) (n + 1) (xs ++ [x])) : w.ownsRow base e 1 (.slice (some ⟨g, 0, none⟩) n cap) n xs := by
  obtain ⟨h1, h2⟩ := h
  refine ⟨by simp at h1; omega, ?_⟩
  rcases h2 with ⟨h2, _⟩ | ⟨g', cap', cur, h2, h3, h4, h5, h6, h7, h8⟩
  · cases h2
  · cases h2
    refine .inr ⟨g, cap, cur, rfl, h3, h4, by omega, h6, h7, ?_⟩
    have : (cur.toList.take ((n + 1) * 1)).take (n * 1) = (xs ++ [x]).take (n * 1) := by rw [h8]
    rw [List.take_take] at this
    rw [show min (n * 1) ((n + 1) * 1) = n * 1 from by omega] at this
    rw [this, List.take_append_of_le_length (by simp at h1; omega), List.take_of_length_le (by simp at h1; omega)]
section
variable {n₀ : Nat} {w : World} {M Bl base : Nat} {st : Value} {S : Stk} {L : List Int} {wr w' : World}
theorem HdC.later (h : HdC n₀ w M Bl base st S L wr) (hn : n₀ ≤ w.heap.size) (hB : Below wr.heap.size wr w') : HdC n₀ w M Bl base st S L w' := by
  have hsz := h.below.size
  refine ⟨ownsRow_later h.own hB, fun e he => ⟨(h.ents e he).1.keep (fun b hb => hB.block b (by rcases hb with hb | rfl; omega; exact h.lt.1)) (fun _ x => x), (h.ents e he).2⟩, h.map.kept (hB.block _ h.map.lt), h.below.trans (hB.mono hsz), ?_⟩
  have := hB.size
  exact ⟨by have := h.lt.1; omega, by have := h.lt.2; omega⟩
theorem HdC.put (h : HdC n₀ w M Bl base st S L wr) (hn : n₀ ≤ w.heap.size) (hM : w.heap.size ≤ M) (hMB : M ≠ Bl) (hMb : M < base) {L' : List Int} (hm : CntM w' M L') (hg : wr.grownBy w' (some M)) : HdC n₀ w M Bl base st S L' w' := by
  have hsz := h.below.size
  have hne : st.ownBlock ≠ some M := fun e => by have := own_ge h.own e; omega
  refine ⟨h.own.kept hg (.inr hne), fun e he => ⟨(h.ents e he).1.keep (fun b hb => hg.block b (by rcases hb with hb | rfl; omega; exact h.lt.1) (fun e => by cases e; rcases hb with hb | hb; omega; exact hMB hb)) (fun _ x => x), (h.ents e he).2⟩, hm, h.below.grown hg (by omega) (fun k e => by cases e; exact hM), ?_⟩
  have := hg.size
  exact ⟨by have := h.lt.1; omega, by have := h.lt.2; omega⟩
theorem HdC.push (h : HdC n₀ w M Bl base st S L wr) (hn : n₀ ≤ w.heap.size) (hM : w.heap.size ≤ M) (hMb : M < base) (hBb : Bl < base) (hwb : w.heap.size ≤ base) {st' : Value} {ts : List T} {a : Option Addr} {c : Nat} {ob : Obj} (hA : IsArgsp (fun b => b < n₀ ∨ b = Bl) wr ts a c) (hne : ts ≠ [])
    (hown : w'.ownsRow base 40 1 st' (S.length + 1) (hvals S ++ [.slice a ts.length c])) (hgr : (wr.alloc ob).grownBy w' st.ownBlock) : HdC n₀ w M Bl base st' (S ++ [(ts, a, c)]) L w' := by
  have hsz := h.below.size
  have hge : ∀ b, st.ownBlock = some b → base ≤ b := fun b e => own_ge h.own e
  have hk : ∀ b, b < wr.heap.size → b < base → w'.heap[b]? = wr.heap[b]? := fun b hb hbb =>
    (hgr.block b (by simp; omega) (fun e => by have := hge b e.symm; omega)).trans (Below.heap_alloc _ _ _ hb)
  have hok : ∀ b, (b < n₀ ∨ b = Bl) → w'.heap[b]? = wr.heap[b]? := fun b hb => by
    rcases hb with hb | rfl
    · exact hk b (by omega) (by omega)
    · exact hk b h.lt.1 hBb
  refine ⟨by simpa [hvals] using hown, fun e he => ?_, h.map.kept (hk M h.map.lt hMb), (h.below.alloc hsz ob).grown hgr (by simp; omega) (fun k e => by have := hge k e; omega), ?_⟩
  · rcases List.mem_append.1 he with he | he
    · exact ⟨(h.ents e he).1.keep hok (fun _ x => x), (h.ents e he).2⟩
    · rw [List.mem_singleton.1 he]
      exact ⟨hA.keep hok (fun _ x => x), hne⟩
  · have := hgr.size
    simp at this
    exact ⟨by have := h.lt.1; omega, by have := h.lt.2; omega⟩
theorem HdC.stack {ts : List T} {a : Option Addr} {c : Nat} (h : HdC n₀ w M Bl base st (S ++ [(ts, a, c)]) L wr) :
    ∃ gs cap, st = .slice (some ⟨gs, 0, none⟩) (S.length + 1) cap ∧ S.length + 1 ≤ cap ∧ cap ≤ maxLen ∧ wr.cell? ⟨gs, S.length, none⟩ = some (.slice a ts.length c) ∧ HdC n₀ w M Bl base (.slice (some ⟨gs, 0, none⟩) S.length cap) S L wr := by
  have hcells := fun g hg => h.own.cells (g := g) hg
  have hown := h.own
  simp only [List.length_append, List.length_cons, List.length_nil, Nat.zero_add] at hown
  rcases hown.2 with ⟨_, h0⟩ | ⟨gs, cap, cur, rfl, hb, hh, hn, hc, _⟩
  · omega
  · refine ⟨gs, cap, rfl, hn, hc, ?_, ⟨hd_pop (by simpa [hvals] using hown), fun e he => h.ents e (List.mem_append_left _ he), h.map, h.below, h.lt⟩⟩
    have := hcells gs rfl S.length (.slice a ts.length c) (by simp [hvals])
    rw [addr_add] at this
    simpa using this
theorem HdC.nilStack (h : HdC n₀ w M Bl base st [] L wr) : ∃ a c, st = .slice a 0 c := by
  rcases h.own.2 with ⟨h, _⟩ | ⟨gs, cap, cur, h, _⟩
  · exact ⟨none, 0, h⟩
  · exact ⟨_, _, h⟩
theorem HdC.len (h : HdC n₀ w M Bl base st S L wr) : S.length ≤ hsum S := by
  have h2 := h.ents
  clear h
  induction S with
  | nil => simp [hsum]
  | cons e S ih =>
    have h1 := ih (fun e he => h2 e (List.mem_cons_of_mem _ he))
    have h3 := T.sizes_ge_length e.1
    have h4 : 0 < e.1.length := List.length_pos_iff.2 (h2 e (List.mem_cons_self ..)).2
    simp [hsum] at h1 ⊢
    omega
end
theorem infoTs : (Tryz.prog.info? 40).map (fun i => (i.zero, i.size, i.bytes)) = some (some (.slice none 0 0), 1, 24) := by kernel_rfl
end Go.Proofs.YtpncmdlbmnmahaaGreat

/- Sums over maps, weights: what names no function (split off Wg). -/
namespace Go.Proofs.YtpncmdlbmnmahaaGreat
set_option linter.unusedVariables false
set_option linter.unusedSimpArgs false
open Go.RowKit Go.Maps
/-- What a map of counts tells at an entry that comes. -/
theorem CntM.entry {L : List Int} {D : DataW Unit} (h3 : ∀ v, hwf v → Maps.has D (.int .i64 v) = decide (v ∈ L) ∧ (v ∈ L → ∀ z, D.atKey (.int .i64 v) z = .lit (.int .i64 (L.count v : Nat)))) {x c : Int} (hx : (Lit.int .i64 x).wf = true)
    (hat : ∀ zd, D.atKey (.int .i64 x) zd = .lit (.int .i64 c)) : x ∈ L ∧ c = (L.count x : Nat) := by
  obtain ⟨q1, q2⟩ := h3 x (hwf_of hx)
  by_cases hm : x ∈ L
  · refine ⟨hm, ?_⟩
    have := (hat .nil).symm.trans (q2 hm .nil)
    simpa using this
  · have h1 := hat .nil
    rw [Maps.atKey_of_not_has (by rw [q1]; simp [hm])] at h1
    cases h1
theorem sameKey_int (a b : Int) : (Lit.int .i64 a).sameKey (.int .i64 b) = decide (a = b) := by
  by_cases h : a = b <;> simp [Lit.sameKey, h]
/-- The sum over those numbers that have come. -/
def sumN (f : Int → Int) (left : Lit → Bool) : List Int → Int
  | [] => 0
  | h :: L => (if left (.int .i64 h) then 0 else f h) + sumN f left L
def sumA (f : Int → Int) : List Int → Int
  | [] => 0
  | h :: L => f h + sumA f L
theorem sumN_start {f : Int → Int} {left : Lit → Bool} : ∀ {L : List Int}, (∀ h ∈ L, left (.int .i64 h) = true) → sumN f left L = 0
  | [], _ => rfl
  | h :: L, hl => by
    have := sumN_start (f := f) (L := L) (fun x hx => hl x (List.mem_cons_of_mem _ hx))
    simp [sumN, hl h (List.mem_cons_self ..), this]
theorem sumN_end {f : Int → Int} {left : Lit → Bool} (hl : ∀ kl, left kl = false) : ∀ {L : List Int}, sumN f left L = sumA f L
  | [] => rfl
  | h :: L => by simp [sumN, sumA, hl, sumN_end hl (L := L)]
theorem sumN_step {f : Int → Int} {left : Lit → Bool} {x : Int} (hx : left (.int .i64 x) = true) : ∀ {L : List Int}, sumN f (fun z => left z && !z.sameKey (.int .i64 x)) L = sumN f left L + (L.count x : Nat) * f x
  | [] => by simp [sumN]
  | h :: L => by
    have ih := sumN_step (f := f) hx (L := L)
    simp only [sumN, ih, sameKey_int]
    by_cases e : h = x
    · subst e
      simp [hx, List.count_cons, Int.add_mul]
      omega
    · have e' : ¬ h = x := e
      simp only [e', decide_false, Bool.not_false, Bool.and_true, List.count_cons_of_ne (fun q => e q)]
      omega
theorem sumN_bound {f : Int → Int} {left : Lit → Bool} : ∀ {L : List Int}, (∀ h ∈ L, 0 ≤ f h ∧ f h ≤ 1000) → 0 ≤ sumN f left L ∧ sumN f left L ≤ 1000 * L.length
  | [], _ => by simp [sumN]
  | h :: L, hl => by
    have h1 := sumN_bound (f := f) (left := left) (L := L) (fun x hx => hl x (List.mem_cons_of_mem _ hx))
    have h2 := hl h (List.mem_cons_self ..)
    simp only [sumN, List.length_cons]
    split <;> omega
theorem sumA_append (f : Int → Int) : ∀ (a b : List Int), sumA f (a ++ b) = sumA f a + sumA f b
  | [], b => by simp [sumA]
  | h :: a, b => by simp [sumA, sumA_append f a b]; omega
mutual
theorem sumA_hds (g : Sg) : (t : T) → sumA (wo g) t.hds = wtT g t
  | .node h ts => by simp [T.hds, sumA, wtT, sumA_hdsL g ts]
theorem sumA_hdsL (g : Sg) : (ts : List T) → sumA (wo g) (T.hdsL ts) = wtL g ts
  | [] => rfl
  | t :: ts => by simp [T.hdsL, sumA_append, wtL, sumA_hds g t, sumA_hdsL g ts]
end
/-- Is the head a variable's or a symbol's? -/
def inS (g : Sg) (h : Int) : Prop := h < 0 ∨ h.toNat < g.length
mutual
theorem fits_heads {g : Sg} : (t : T) → fitsT g t = true → bad (T.subs 1 t) = false → ∀ h ∈ t.hds, inS g h
  | .node h ts, hf, hb, x, hx => by
    rcases List.mem_cons.1 hx with rfl | hx
    · by_cases q : x < 0
      · exact .inl q
      · simp only [fitsT, q, decide_false, Bool.false_or, Bool.and_eq_true, armOk] at hf
        obtain ⟨h1, _⟩ := hf
        split at h1
        · rename_i y hy; exact .inr (List.getElem?_eq_some_iff.1 hy).1
        · simp at h1
    · exact fits_headsL ts (fits_args hf hb) x hx
theorem fits_headsL {g : Sg} : (ts : List T) → (∀ t ∈ ts, fitsT g t = true ∧ bad (T.subs 1 t) = false) → ∀ h ∈ T.hdsL ts, inS g h
  | [], _, x, hx => by simp [T.hdsL] at hx
  | t :: ts, h, x, hx => by
    rcases List.mem_append.1 hx with hx | hx
    · exact fits_heads t (h t (List.mem_cons_self ..)).1 (h t (List.mem_cons_self ..)).2 x hx
    · exact fits_headsL ts (fun s hs => h s (List.mem_cons_of_mem _ hs)) x hx
end
theorem wo_bound {g : Sg} (hr : rightG g = true) {h : Int} (hs : inS g h) : 1 ≤ wo g h ∧ wo g h ≤ 1000 := by
  unfold wo
  rcases hs with hs | hs
  · simp [hs]
  · by_cases q : h < 0
    · simp [q]
    · rw [if_neg q, List.getElem?_eq_getElem hs]
      simp only [rightG, Bool.and_eq_true, Bool.not_eq_true', List.any_eq_false] at hr
      have := hr.1.2 g[h.toNat] (List.getElem_mem hs)
      simp only [badSy, Bool.or_eq_true, decide_eq_true_eq, not_or] at this
      dsimp only
      omega
theorem mul_small (n : Nat) (z : Int) (h1 : n ≤ 400) (h2 : 0 ≤ z) (h3 : z ≤ 1000) : 0 ≤ (n : Int) * z ∧ (n : Int) * z ≤ 400000 := by
  have h0 : (0 : Int) ≤ (n : Int) := Int.natCast_nonneg _
  refine ⟨Int.mul_nonneg h0 h2, ?_⟩
  have q1 : (n : Int) * z ≤ 400 * z := Int.mul_le_mul_of_nonneg_right (by omega) h2
  omega
/-- What Weight returns. -/
def weightV (g : Sg) (t : T) : Value := if errT g t = 0 then .tuple #[.int .i64 (wtT g t), .int .i64 0] else .tuple #[.int .i64 0, .int .i64 (errT g t)]
theorem errT_ok {g : Sg} {t : T} (h : errT g t = 0) : rightG g = true ∧ t.check = 0 ∧ fitsT g t = true ∧ predL g t.args = false := by
  unfold errT at h
  by_cases h1 : rightG g = true
  · rw [if_pos h1] at h
    by_cases h2 : t.check = 0
    · rw [if_pos h2] at h
      by_cases h3 : fitsT g t = true
      · rw [if_pos h3] at h
        by_cases h4 : predL g t.args = true
        · rw [if_pos h4] at h; cases h
        · exact ⟨h1, h2, h3, by simpa using h4⟩
      · rw [if_neg h3] at h; cases h
    · rw [if_neg h2] at h; exact absurd h h2
  · rw [if_neg h1] at h; cases h
end Go.Proofs.YtpncmdlbmnmahaaGreat

/- Weights of parts and of terms put: plain facts. -/
namespace Go.Proofs.YtpncmdlbmnmahaaGreat
set_option linter.unusedVariables false
set_option linter.unusedSimpArgs false
open Go.RowKit
theorem check_of {t : T} (h1 : t.size ≤ 400) (h2 : t.depth ≤ 40) (h3 : bad (T.subs 1 t) = false) : t.check = 0 := by
  unfold T.check
  rw [if_neg (by omega), if_neg (by omega), h3]; rfl
theorem depth_mem : ∀ {ts : List T} {s : T}, s ∈ ts → s.depth ≤ T.depths ts
  | t :: ts, s, h => by
    simp only [T.depths]
    rcases List.mem_cons.1 h with rfl | h
    · omega
    · have := depth_mem h; omega
theorem size_mem : ∀ {ts : List T} {s : T}, s ∈ ts → s.size ≤ T.sizes ts
  | t :: ts, s, h => by
    simp only [T.sizes]
    rcases List.mem_cons.1 h with rfl | h
    · omega
    · have := size_mem h; omega
/-- What Term asks of a term, when the signature is right. -/
def OkT (g : Sg) (t : T) : Prop := t.check = 0 ∧ fitsT g t = true ∧ predL g t.args = false
theorem okT_iff {g : Sg} {t : T} (hr : rightG g = true) : errT g t = 0 ↔ OkT g t := by
  constructor
  · intro h; obtain ⟨_, h2, h3, h4⟩ := errT_ok h; exact ⟨h2, h3, h4⟩
  · rintro ⟨h2, h3, h4⟩
    unfold errT
    rw [if_pos hr, if_pos h2, if_pos h3, h4]; rfl
theorem OkT.arg {g : Sg} {t s : T} (h : OkT g t) (hs : s ∈ t.args) : OkT g s := by
  obtain ⟨h1, h2, h3⟩ := h
  obtain ⟨c1, c2, c3⟩ := check_ok h1
  obtain ⟨f1, f2⟩ := fits_args h2 c3 s hs
  refine ⟨check_of (by have := size_mem hs; have := T.size_eq t; omega) (by have := depth_mem hs; have := T.depth_eq t; omega) f2, f1, ?_⟩
  rw [predL_any, List.any_eq_false] at h3
  have := h3 s hs
  rw [predT_eq] at this
  simp only [Bool.or_eq_true, not_or, Bool.not_eq_true] at this
  exact this.2
theorem OkT.heads {g : Sg} {t : T} (h : OkT g t) : ∀ x ∈ t.hds, inS g x := fits_heads t h.2.1 (check_ok h.1).2.2
theorem sumA_nonneg {f : Int → Int} : ∀ {L : List Int}, (∀ h ∈ L, 0 ≤ f h) → 0 ≤ sumA f L
  | [], _ => by simp [sumA]
  | h :: L, hl => by
    have h1 := sumA_nonneg (L := L) (fun x hx => hl x (List.mem_cons_of_mem _ hx))
    have h2 := hl h (List.mem_cons_self ..)
    simp only [sumA]; omega
theorem hds_mem {ts : List T} {s : T} (h : s ∈ ts) : ∀ x ∈ s.hds, x ∈ T.hdsL ts := by
  induction ts with
  | nil => simp at h
  | cons t ts ih =>
    intro x hx
    simp only [T.hdsL, List.mem_append]
    rcases List.mem_cons.1 h with rfl | h
    · exact .inl hx
    · exact .inr (ih h x hx)
theorem wt_pos {g : Sg} {t : T} (hr : rightG g = true) (h : OkT g t) : 1 ≤ wtT g t := by
  have hh := h.heads
  rw [wtT_eq]
  have h1 := (wo_bound hr (hh t.head (by rw [T.hds_eq]; simp))).1
  have h2 : 0 ≤ wtL g t.args := by
    rw [← sumA_hdsL]
    exact sumA_nonneg (fun x hx => by have := (wo_bound hr (hh x (by rw [T.hds_eq]; simp [hx]))).1; omega)
  omega
end Go.Proofs.YtpncmdlbmnmahaaGreat

/- Knuth and Bendix's order in plain words. -/
namespace Go.Proofs.YtpncmdlbmnmahaaGreat
set_option linter.unusedVariables false
set_option linter.unusedSimpArgs false
open Go.RowKit
mutual
def T.same : T → T → Bool
  | .node h ts, .node k us => decide (h = k) && T.sameL ts us
def T.sameL : List T → List T → Bool
  | [], [] => true
  | t :: ts, u :: us => T.same t u && T.sameL ts us
  | [], _ :: _ => false
  | _ :: _, [] => false
end
mutual
theorem T.same_iff : (a b : T) → (T.same a b = true ↔ a = b)
  | .node h ts, .node k us => by
    have := T.sameL_iff ts us
    simp only [T.same, Bool.and_eq_true, decide_eq_true_eq, this, T.node.injEq]
theorem T.sameL_iff : (a b : List T) → (T.sameL a b = true ↔ a = b)
  | [], [] => by simp [T.sameL]
  | t :: ts, u :: us => by
    have h1 := T.same_iff t u
    have h2 := T.sameL_iff ts us
    simp only [T.sameL, Bool.and_eq_true, h1, h2, List.cons.injEq]
  | [], _ :: _ => by simp [T.sameL]
  | _ :: _, [] => by simp [T.sameL]
end
theorem T.same_self (a : T) : T.same a a = true := (T.same_iff a a).2 rfl
theorem T.same_ne {a b : T} (h : a ≠ b) : T.same a b = false := by
  cases hs : T.same a b
  · rfl
  · exact absurd ((T.same_iff a b).1 hs) h
/-- Has a each variable at least as often as b? -/
def oftB (a b : T) : Bool := b.hds.all fun h => !decide (h < 0) || decide (b.hds.count h ≤ a.hds.count h)
def Oft (a b : T) : Prop := ∀ h : Int, h < 0 → b.hds.count h ≤ a.hds.count h
theorem oft_iff {a b : T} : oftB a b = true ↔ Oft a b := by
  simp only [oftB, List.all_eq_true, Bool.or_eq_true, Bool.not_eq_true', decide_eq_false_iff_not, decide_eq_true_eq]
  constructor
  · intro h x hx
    by_cases hm : x ∈ b.hds
    · rcases h x hm with h | h
      · exact absurd hx h
      · exact h
    · rw [List.count_eq_zero.2 hm]; exact Nat.zero_le _
  · intro h x _
    by_cases hx : x < 0
    · exact .inr (h x hx)
    · exact .inl hx
mutual
def gtK (g : Sg) : T → T → Bool
  | .node h ts, b => oftB (.node h ts) b && (if wtT g (.node h ts) = wtT g b then !decide (h < 0) && (!decide (b.head < 0) && (if h = b.head then gtL g ts b.args else decide (b.head < h))) else decide (wtT g b < wtT g (.node h ts)))
def gtL (g : Sg) : List T → List T → Bool
  | t :: ts, u :: us => if T.same t u then gtL g ts us else gtK g t u
  | _, _ => false
end
theorem gtK_eq (g : Sg) (a b : T) : gtK g a b = (oftB a b && (if wtT g a = wtT g b then !decide (a.head < 0) && (!decide (b.head < 0) && (if a.head = b.head then gtL g a.args b.args else decide (b.head < a.head))) else decide (wtT g b < wtT g a))) := by
  cases a; rw [gtK]; rfl
theorem gtK_iff {g : Sg} {a b : T} : gtK g a b = true ↔ Oft a b ∧ (wtT g b < wtT g a ∨ (wtT g a = wtT g b ∧ 0 ≤ a.head ∧ 0 ≤ b.head ∧ (b.head < a.head ∨ (a.head = b.head ∧ gtL g a.args b.args = true)))) := by
  rw [gtK_eq, Bool.and_eq_true, oft_iff]
  refine and_congr_right fun _ => ?_
  by_cases hw : wtT g a = wtT g b
  · rw [if_pos hw]
    by_cases hh : a.head = b.head
    · rw [if_pos hh]
      simp only [Bool.and_eq_true, Bool.not_eq_true', decide_eq_false_iff_not]
      constructor
      · rintro ⟨h1, h2, h3⟩; exact .inr ⟨hw, by omega, by omega, .inr ⟨hh, h3⟩⟩
      · rintro (h | ⟨_, h1, h2, h3⟩)
        · omega
        · rcases h3 with h3 | h3
          · omega
          · exact ⟨by omega, by omega, h3.2⟩
    · rw [if_neg hh]
      simp only [Bool.and_eq_true, Bool.not_eq_true', decide_eq_false_iff_not, decide_eq_true_eq]
      constructor
      · rintro ⟨h1, h2, h3⟩; exact .inr ⟨hw, by omega, by omega, .inl h3⟩
      · rintro (h | ⟨_, h1, h2, h3⟩)
        · omega
        · rcases h3 with h3 | h3
          · exact ⟨by omega, by omega, h3⟩
          · exact absurd h3.1 hh
  · rw [if_neg hw, decide_eq_true_eq]
    constructor
    · exact .inl
    · rintro (h | h)
      · exact h
      · exact absurd h.1 hw
theorem gtL_self (g : Sg) (ts : List T) : gtL g ts ts = false := by
  induction ts with
  | nil => simp [gtL]
  | cons t ts ih => simp [gtL, T.same_self, ih]
theorem gtK_self (g : Sg) (a : T) : gtK g a a = false := by
  rw [gtK_eq]; simp [gtL_self]
theorem gtK_ne {g : Sg} {a b : T} (h : gtK g a b = true) : a ≠ b := fun e => by rw [e, gtK_self] at h; cases h
theorem gtL_trans {g : Sg} : ∀ {ts us vs : List T}, (∀ t ∈ ts, ∀ u v, gtK g t u = true → gtK g u v = true → gtK g t v = true) → gtL g ts us = true → gtL g us vs = true → gtL g ts vs = true
  | [], us, vs, _, h, _ => by simp [gtL] at h
  | t :: ts, [], vs, _, h, _ => by simp [gtL] at h
  | t :: ts, u :: us, [], _, _, h => by simp [gtL] at h
  | t :: ts, u :: us, v :: vs, hT, h1, h2 => by
    rw [gtL] at h1 h2 ⊢
    by_cases e1 : t = u
    · subst e1
      rw [T.same_self, if_pos rfl] at h1
      by_cases e2 : t = v
      · subst e2
        rw [T.same_self, if_pos rfl] at h2 ⊢
        exact gtL_trans (fun s hs => hT s (List.mem_cons_of_mem _ hs)) h1 h2
      · rw [T.same_ne e2, if_neg (by simp)] at h2 ⊢
        exact h2
    · rw [T.same_ne e1, if_neg (by simp)] at h1
      by_cases e2 : u = v
      · subst e2
        rw [T.same_ne e1, if_neg (by simp)]
        exact h1
      · rw [T.same_ne e2, if_neg (by simp)] at h2
        have h3 := hT t (List.mem_cons_self ..) u v h1 h2
        rw [T.same_ne (gtK_ne h3), if_neg (by simp)]
        exact h3
theorem gtK_trans {g : Sg} : ∀ (N : Nat) (a b c : T), a.size ≤ N → gtK g a b = true → gtK g b c = true → gtK g a c = true := by
  intro N
  induction N with
  | zero => intro a b c ha; have := T.size_pos a; omega
  | succ N ih =>
    intro a b c ha h1 h2
    obtain ⟨o1, p1⟩ := gtK_iff.1 h1
    obtain ⟨o2, p2⟩ := gtK_iff.1 h2
    refine gtK_iff.2 ⟨fun h hn => Nat.le_trans (o2 h hn) (o1 h hn), ?_⟩
    rcases p1 with p1 | ⟨w1, a1, b1, q1⟩
    · rcases p2 with p2 | ⟨w2, _⟩
      · exact .inl (by omega)
      · exact .inl (by omega)
    · rcases p2 with p2 | ⟨w2, b2, c2, q2⟩
      · exact .inl (by omega)
      · refine .inr ⟨by omega, a1, c2, ?_⟩
        rcases q1 with q1 | ⟨e1, l1⟩
        · rcases q2 with q2 | ⟨e2, _⟩
          · exact .inl (by omega)
          · exact .inl (by omega)
        · rcases q2 with q2 | ⟨e2, l2⟩
          · exact .inl (by omega)
          · refine .inr ⟨by omega, gtL_trans (fun t ht u v hu hv => ih t u v ?_ hu hv) l1 l2⟩
            have := size_mem ht; have := T.size_eq a; omega
theorem gtK_asym {g : Sg} {a b : T} (h : gtK g a b = true) : gtK g b a = false := by
  cases hb : gtK g b a
  · rfl
  · have := gtK_trans a.size a b a (Nat.le_refl _) h hb
    rw [gtK_self] at this; cases this
theorem gtK_wt {g : Sg} {a b : T} (h : gtK g a b = true) : wtT g b ≤ wtT g a := by
  obtain ⟨_, h | h⟩ := gtK_iff.1 h
  · omega
  · omega
/-! ### Terms without variables -/
theorem fits_arity {g : Sg} {a b : T} (ha : fitsT g a = true) (hb : fitsT g b = true) (h0 : 0 ≤ a.head) (h : a.head = b.head) : a.args.length = b.args.length := by
  rw [fitsT_eq] at ha hb
  simp only [show ¬ a.head < 0 from by omega, show ¬ b.head < 0 from by omega, decide_false, Bool.false_or, Bool.and_eq_true, armOk] at ha hb
  rw [h] at ha
  obtain ⟨h1, _⟩ := ha
  obtain ⟨h2, _⟩ := hb
  cases hx : g[b.head.toNat]? with
  | none => rw [hx] at h1; simp at h1
  | some x =>
    rw [hx] at h1 h2
    simp only [decide_eq_true_eq] at h1 h2
    omega
/-! ### Parts -/
/-! ### How two stand -/
def stand (g : Sg) (a b : T) : Int := if T.same a b then 0 else if gtK g a b then 1 else if gtK g b a then -1 else 2
theorem stand_zero {g : Sg} {a b : T} : stand g a b = 0 ↔ a = b := by
  unfold stand
  constructor
  · intro h
    by_cases e : a = b
    · exact e
    · rw [T.same_ne e, if_neg (by simp)] at h
      split at h
      · cases h
      · split at h <;> cases h
  · rintro rfl; rw [T.same_self, if_pos rfl]
theorem stand_more {g : Sg} {a b : T} : stand g a b = 1 ↔ gtK g a b = true := by
  unfold stand
  constructor
  · intro h
    split at h
    · cases h
    · split at h
      · assumption
      · split at h <;> cases h
  · intro h
    rw [T.same_ne (gtK_ne h), if_neg (by simp), if_pos h]
theorem stand_less {g : Sg} {a b : T} : stand g a b = -1 ↔ gtK g b a = true := by
  unfold stand
  constructor
  · intro h
    split at h
    · cases h
    · split at h
      · cases h
      · split at h
        · assumption
        · cases h
  · intro h
    rw [T.same_ne (fun e => gtK_ne h e.symm), if_neg (by simp), gtK_asym h, if_neg (by simp), if_pos h]
theorem stand_cases (g : Sg) (a b : T) : (stand g a b = 0 ∧ a = b) ∨ (stand g a b = 1 ∧ gtK g a b = true) ∨ (stand g a b = -1 ∧ gtK g b a = true) ∨ (stand g a b = 2 ∧ a ≠ b ∧ gtK g a b = false ∧ gtK g b a = false) := by
  unfold stand
  by_cases e : a = b
  · subst e; rw [T.same_self, if_pos rfl]; exact .inl ⟨rfl, rfl⟩
  · rw [T.same_ne e, if_neg (by simp)]
    cases h1 : gtK g a b
    · cases h2 : gtK g b a
      · exact .inr (.inr (.inr ⟨rfl, e, rfl, rfl⟩))
      · exact .inr (.inr (.inl ⟨rfl, rfl⟩))
    · exact .inr (.inl ⟨rfl, rfl⟩)
end Go.Proofs.YtpncmdlbmnmahaaGreat
