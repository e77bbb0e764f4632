/- QBo: joined of R7, R7b, R7t. -/
import Derived.Test.YtbdabdjpgmnejaaGreatQBi
import Derived.Test.YtbdabdjpgmnejaaGreatQBk
import Derived.Test.YtbdabdjpgmnejaaGreatQBn
import Derived.Lib.QuietBelow
import Derived.BigQuiet
import Derived.Test.YtbdabdjpgmnejaaGreatQBh
/- Contracts of the document's answer for signatures and weights (layer 7). -/
namespace Go.Proofs.YtbdabdjpgmnejaaGreat
set_option linter.unusedVariables false
set_option linter.unusedSimpArgs false
open Go.RowKit

theorem bl_drew' (W : World) (n : Nat) : Below W.heap.size W (W.drewN n) := ⟨rfl, rfl, rfl, Nat.le_refl _, fun _ _ => rfl⟩
theorem rightG_false {g : Sg} (h : ¬ (1 ≤ g.length ∧ g.length ≤ 256)) : rightG g = false := by
  unfold rightG
  by_cases h1 : 1 ≤ g.length
  · have h2 : ¬ g.length ≤ 256 := fun e => h ⟨h1, e⟩
    simp [h1, h2]
  · simp [h1]
theorem rightG_bad {g : Sg} {k : Nat} {x : Sy} (hx : g[k]? = some x) (hb : badSy x = true) : rightG g = false := by
  have : g.any badSy = true := List.any_eq_true.2 ⟨x, List.mem_of_getElem? hx, hb⟩
  unfold rightG
  simp [this]
theorem rightG_same {g : Sg} {k j : Nat} {x y : Sy} (hx : g[k]? = some x) (hj : j < k) (hy : g[j]? = some y) (e : y.name = x.name) : rightG g = false := by
  have : difSg g = false := by
    cases hd : difSg g with
    | false => rfl
    | true => exact absurd e (difSg_iff.1 hd k j x y hj hx hy)
  unfold rightG
  simp [this]
theorem rightG_end {g : Sg} {x : Sy} (h1 : 1 ≤ g.length) (h2 : g.length ≤ 256) (hx : g[0]? = some x) (hb : ∀ (j : Nat) (y : Sy), j < g.length → g[j]? = some y → badSy y = false) (hd : difK g g.length) : rightG g = decide (x = sy0) := by
  have hd' := difK_all.1 hd
  have hany : g.any badSy = false := by
    rw [List.any_eq_false]
    intro y hy
    obtain ⟨j, hj⟩ := List.getElem?_of_mem hy
    simp [hb j y (List.getElem?_eq_some_iff.1 hj).1 hj]
  unfold rightG
  simp [h1, h2, hx, hd', hany]
theorem eqlSym (x y : Sy) (w : World) : Sem.run Tryz.prog (binOp .eql 71 (sy x) (sy y)) w = .ok (.bool (decide (x = y))) w := by
  have h := neqSym x y w
  simp only [sy] at h ⊢
  rw [run_neq_struct] at h
  rw [run_eql_struct]
  generalize (Op.equalIn 10000 71 (.agg #[.string x.name, .int .i64 x.ar, .int .i64 x.wt, .bool x.tr]) (.agg #[.string y.name, .int .i64 y.ar, .int .i64 y.wt, .bool y.tr])).run Tryz.prog w = r at h ⊢
  cases r with
  | ok b w' =>
    simp only [Result.andThen] at h ⊢
    injection h with h1 h2
    injection h1 with h1
    subst h2
    have : b = decide (x = y) := by
      by_cases e : x = y
      · simp [e] at h1 ⊢; exact h1
      · simp [e] at h1 ⊢; exact h1
    rw [this]
  | halt a w' => simp [Result.andThen] at h

def RiI (g : Sg) (w : World) (i : Value) (wr : World) : Prop := ∃ k : Nat, k ≤ g.length ∧ i = .int .i64 k ∧ (∀ (j : Nat) (y : Sy), j < k → g[j]? = some y → badSy y = false) ∧ difK g k ∧ Below w.heap.size w wr
def RiJ (g : Sg) (x : Sy) (k : Nat) (B : Nat) (w1 : World) (i : Value) (wr : World) : Prop := ∃ j : Nat, j ≤ k ∧ i = .int .i64 j ∧ (∀ (l : Nat) (y : Sy), l < j → g[l]? = some y → y.name ≠ x.name) ∧ Below B w1 wr

set_option maxRecDepth 100000 in
set_option maxHeartbeats 4000000 in
theorem r7Right_any (g : Sg) (n₀ : Nat) (a : Option Addr) (c : Nat) (w : World) (hn : n₀ ≤ w.heap.size) (hG : IsSg n₀ w g a c) :
    Calls Tryz.prog 57 #[.slice a g.length c] w fun e w' => e = .returned (.bool (rightG g)) ∧ Below w.heap.size w w' := by
  have hlc : g.length ≤ c ∧ c ≤ maxLen := ⟨hG.1, hG.2.1⟩
  unfold maxLen at hlc
  obtain ⟨hl1, hl2⟩ := hlc
  have HG := Lib.hid hG
  clear hG
  by_cases q1 : g.length < 1
  · have HE := Lib.hid (rightG_false (g := g) (by omega))
    go_enter Tryz.func57, Tryz.ntmps57
    go_wp2
    go_ret
    exact ⟨by rw [HE.out]; rfl, Below.refl _ _⟩
  by_cases q2 : 256 < g.length
  · have HE := Lib.hid (rightG_false (g := g) (by omega))
    go_enter Tryz.func57, Tryz.ntmps57
    go_wp2
    go_ret
    exact ⟨by rw [HE.out]; rfl, Below.refl _ _⟩
  go_enter Tryz.func57, Tryz.ntmps57
  go_wp2
  go_loopw [3, 4, 5] (fun i _ _ wr => RiI g w i wr) (fun i _ _ _ => g.length - (intOf i).toNat)
  case atStart => exact ⟨0, Nat.zero_le _, rfl, fun j y hj => by omega, fun i j x y hi => by omega, Below.refl _ _⟩
  case round =>
    obtain ⟨k, hk, rfl, hbd, hdk, hB⟩ := hrel
    have HBD := Lib.hid hbd
    have HDK := Lib.hid hdk
    have HB := Lib.hid hB
    have hbz := hB.size
    clear hbd hdk hB
    by_cases hlt : k < g.length
    · obtain ⟨b, o, x, rfl, hbn, hs, hxw, hc0, hc1, hc2, hc3⟩ := (HG.out.below (HB.out.mono hn)).elem (i := k) hlt
      have hk0 : (0 : Int) ≤ (k : Int) := Int.natCast_nonneg _
      have hk1 : (k : Int) < (g.length : Int) := by omega
      have hbw : b < wr.heap.size := by omega
      have HXK := Lib.hid hs
      have hb1 : Below w.heap.size w (wr.alloc (.cells #[.string x.name, .int .i64 x.ar, .int .i64 x.wt, .bool x.tr] 71)) := HB.out.alloc hbz _
      have HB1 := Lib.hid hb1
      have hxs : x.name.size ≤ 9223372036854775807 := by have := hxw.1; unfold maxLen at this; omega
      clear hs hxw hb1
      by_cases hbad : badSy x = true
      · have HE := Lib.hid (rightG_bad HXK.out hbad)
        have hcs : (x.name.size < 1) ∨ (¬ x.name.size < 1 ∧ 64 < x.name.size) ∨ (¬ x.name.size < 1 ∧ ¬ 64 < x.name.size ∧ x.ar < 0) ∨ (¬ x.name.size < 1 ∧ ¬ 64 < x.name.size ∧ ¬ x.ar < 0 ∧ 8 < x.ar) ∨ (¬ x.name.size < 1 ∧ ¬ 64 < x.name.size ∧ ¬ x.ar < 0 ∧ ¬ 8 < x.ar ∧ x.wt < 1) ∨ (¬ x.name.size < 1 ∧ ¬ 64 < x.name.size ∧ ¬ x.ar < 0 ∧ ¬ 8 < x.ar ∧ ¬ x.wt < 1 ∧ 1000 < x.wt) := by
          simp only [badSy, Bool.or_eq_true, decide_eq_true_eq] at hbad
          omega
        clear hbad
        rcases hcs with h1 | ⟨h1, h2⟩ | ⟨h1, h2, h3⟩ | ⟨h1, h2, h3, h4⟩ | ⟨h1, h2, h3, h4, h5⟩ | ⟨h1, h2, h3, h4, h5, h6⟩
        all_goals
          go_wp2
          go_ret
          exact ⟨by rw [HE.out]; rfl, HB1.out⟩
      · have HNB := Lib.hid (show badSy x = false from by simpa using hbad)
        simp only [badSy, Bool.or_eq_true, decide_eq_true_eq, not_or] at hbad
        obtain ⟨⟨⟨⟨⟨h1, h2⟩, h3⟩, h4⟩, h5⟩, h6⟩ := hbad
        go_wp2
        have hsz1 : (wr.alloc (.cells #[.string x.name, .int .i64 x.ar, .int .i64 x.wt, .bool x.tr] 71)).heap.size = wr.heap.size + 1 := by simp
        have hx0 : (wr.alloc (.cells #[.string x.name, .int .i64 x.ar, .int .i64 x.wt, .bool x.tr] 71)).cell? ⟨wr.heap.size, 0, none⟩ = some (.string x.name) := by simp [go_sem]
        generalize wr.alloc (.cells #[.string x.name, .int .i64 x.ar, .int .i64 x.wt, .bool x.tr] 71) = w1 at *
        generalize hB0 : wr.heap.size = B0 at *
        go_loopw [5] (fun i wi => RiJ g x k (B0 + 1) w1 i wi) (fun i _ => k - (intOf i).toNat)
        case atStart => exact ⟨0, Nat.zero_le _, rfl, fun j y hj => by omega, Below.refl _ _⟩
        case round =>
          obtain ⟨j, hj, rfl, hno, hB2⟩ := hrel
          have HNO := Lib.hid hno
          have HB2 := Lib.hid hB2
          have hB2z := hB2.size
          clear hno hB2
          by_cases hjk : j < k
          · have hx0' := (HB2.out.cell (p := ⟨B0, 0, none⟩) (by simp)).trans hx0
            have hBr : Below w.heap.size w wr := HB1.out.trans (HB2.out.mono (by omega))
            obtain ⟨b', o', y, hbo, hbn', hy, hyw, hd0, _, _, _⟩ := (HG.out.below (hBr.mono hn)).elem (i := j) (by omega)
            injection hbo with hbo
            injection hbo with hbo1 hbo2
            subst hbo1 hbo2
            have hj0 : (0 : Int) ≤ (j : Int) := Int.natCast_nonneg _
            have hj1 : (j : Int) < (g.length : Int) := by omega
            have hj2 : (j : Int) < (k : Int) := by omega
            have HY := Lib.hid hy
            have HBR := Lib.hid hBr
            clear hy hyw hBr
            by_cases he : y.name = x.name
            · have HE := Lib.hid (rightG_same HXK.out hjk HY.out he)
              rw [← he] at hx0'
              go_wp2
              go_quiet (fail)
              go_wp2
              go_ret
              exact ⟨by rw [HE.out]; rfl, HBR.out.trans ((bl_drew' _ _).mono HBR.out.size)⟩
            · have hne3 : (y.name.toList == x.name.toList) = false := by simpa using (show y.name.toList ≠ x.name.toList from fun e => he ((tl_iff _ _).1 e))
              go_wp2
              go_quiet (fail)
              go_wp2
              go_roundw
              case rel => exact ⟨j + 1, by omega, by go_num, fun l z hl hz => by
                by_cases e : l = j
                · subst e; rw [HY.out] at hz; obtain rfl := Option.some.inj hz; exact he
                · exact HNO.out l z (by omega) hz, HB2.out.trans ((bl_drew' _ _).mono (by omega))⟩
              case measure => simp [intOf]; omega
          · obtain rfl : j = k := by omega
            go_wp2
            go_roundw
            case rel => exact ⟨j + 1, by omega, by go_num, fun l z hl hz => by
                by_cases e : l = j
                · subst e; rw [HXK.out] at hz; obtain rfl := Option.some.inj hz; exact HNB.out
                · exact HBD.out l z (by omega) hz, (difK_step HXK.out).2 ⟨HDK.out, fun l z hl hz => HNO.out l z hl hz⟩, HB1.out.trans (HB2.out.mono (by omega))⟩
            case measure => simp [intOf]; omega
    · obtain rfl : k = g.length := by omega
      obtain ⟨b, o, x, rfl, hbn, hs, hxw, hc0, hc1, hc2, hc3⟩ := (HG.out.below (HB.out.mono hn)).elem (i := 0) (by omega)
      simp only [Nat.zero_mul, Nat.add_zero] at hc0 hc1 hc2 hc3
      have HE := Lib.hid (rightG_end (by omega) (by omega) hs HBD.out HDK.out)
      have hgd := fun (op : BinOp) (p q : Operand) (u v : Array Value) (W : World) => run_eqGuard_agg (P := Tryz.prog) W op 71 p q u v (by kernel_rfl)
      have heql : ∀ W, Sem.run Tryz.prog (binOp .eql 71 (.agg #[.string x.name, .int .i64 x.ar, .int .i64 x.wt, .bool x.tr]) (.agg #[.string ⟨#[36, 116, 114, 117, 101]⟩, .int .i64 0, .int .i64 1, .bool true])) W = .ok (.bool (decide (x = sy0))) W := fun W => eqlSym x sy0 W
      clear hs hxw
      have h0k : (0 : Int) < (g.length : Int) := by omega
      go_wp2
      go_ret
      exact ⟨by rw [HE.out]; rfl, HB.out⟩

end Go.Proofs.YtbdabdjpgmnejaaGreat

/- Contracts of the document's answer for terms over a signature (layer 7). -/
namespace Go.Proofs.YtbdabdjpgmnejaaGreat
set_option linter.unusedVariables false
set_option linter.unusedSimpArgs false
open Go.RowKit

theorem fitsT_miss {g : Sg} {t : T} (h0 : 0 ≤ t.head) (h : armOk g t.head t.args.length = false) : fitsT g t = false := by
  rw [fitsT_eq, h]; simp; omega
theorem fitsT_hit {g : Sg} {t : T} (h0 : 0 ≤ t.head) (h : armOk g t.head t.args.length = true) : fitsT g t = fitsL g t.args := by
  rw [fitsT_eq, h]; simp; omega
def KnI (g : Sg) (t : T) (B : Nat) (w1 : World) (i : Value) (wr : World) : Prop := ∃ k : Nat, k ≤ t.args.length ∧ i = .int .i64 k ∧ fitsL g (t.args.take k) = true ∧ Below B w1 wr

set_option maxRecDepth 100000 in
set_option maxHeartbeats 4000000 in
theorem r7known_any (g : Sg) : ∀ (N : Nat) (t : T), t.size ≤ N → ∀ (n₀ : Nat) (ga : Option Addr) (gc : Nat) (a : Option Addr) (c : Nat) (w : World), n₀ ≤ w.heap.size → IsSg n₀ w g ga gc → IsArgs n₀ w t.args a c →
    Calls Tryz.prog 128 #[.slice ga g.length gc, tm t.head a t.args.length c] w fun e w' => e = .returned (.bool (fitsT g t)) ∧ Below w.heap.size w w' := by
  intro N
  induction N with
  | zero => intro t ht; have := T.size_pos t; omega
  | succ N ih =>
    intro t ht n₀ ga gc a c w hn hG hA
    have IH := Lib.hid ih
    clear ih
    have hlc : t.args.length ≤ c ∧ c ≤ maxLen := ⟨hA.1, hA.2.1⟩
    have hlg : g.length ≤ gc ∧ gc ≤ maxLen := ⟨hG.1, hG.2.1⟩
    unfold maxLen at hlc hlg
    obtain ⟨hl1, hl2⟩ := hlc
    obtain ⟨hl3, hl4⟩ := hlg
    have HS := Lib.hid (show ∀ s ∈ t.args, s.size ≤ N from fun s hs => by
      obtain ⟨i, hi⟩ := List.getElem?_of_mem hs
      have h1 := T.size_lt_of_mem hi
      have h2 := T.size_eq t
      omega)
    have HA := Lib.hid hA
    have HG := Lib.hid hG
    clear hA hG
    obtain ⟨W1, hW1⟩ : ∃ W1, w.alloc (tmCells t.head a t.args.length c) = W1 := ⟨_, rfl⟩
    have HF := Lib.hid (show Below w.heap.size w W1 from by rw [← hW1]; exact (Below.refl _ w).alloc (Nat.le_refl _) _)
    have hs1 : W1.heap.size = w.heap.size + 1 := by rw [← hW1]; simp
    have ht0 : W1.cell? ⟨w.heap.size, 0, none⟩ = some (.int .i64 t.head) := by rw [← hW1]; simp [go_sem]
    have ht1 : W1.cell? ⟨w.heap.size, 1, none⟩ = some (.slice a t.args.length c) := by rw [← hW1]; simp [go_sem]
    by_cases q1 : t.head < 0
    · have HD := Lib.hid (show fitsT g t = true from by rw [fitsT_eq]; simp [q1])
      go_enter Tryz.func128, Tryz.ntmps128
      go_wp2
      go_ret
      exact ⟨by rw [HD.out]; rfl, HF.out⟩
    by_cases q2 : (g.length : Int) ≤ t.head
    · have HD := Lib.hid (fitsT_miss (g := g) (t := t) (by omega) (by unfold armOk; rw [List.getElem?_eq_none (by omega)]; simp; omega))
      go_enter Tryz.func128, Tryz.ntmps128
      go_wp2
      clear hW1
      go_quiet (fail)
      go_wp2
      go_ret
      exact ⟨by rw [HD.out]; rfl, HF.out.trans ((bl_drew' _ _).mono HF.out.size)⟩
    obtain ⟨b, o, x, rfl, hbn, hs, hxw, hc0, hc1, hc2, hc3⟩ := HG.out.elem (i := t.head.toNat) (by omega)
    have hk0 : (0 : Int) ≤ t.head := by omega
    have hk1 : t.head < (g.length : Int) := by omega
    have HAR := Lib.hid (show armOk g t.head t.args.length = decide ((t.args.length : Int) = x.ar) from by unfold armOk; rw [hs]; simp; omega)
    have hbw : b < w.heap.size := by omega
    have hx1 : W1.cell? ⟨b, o + t.head.toNat * 4 + 1, none⟩ = some (.int .i64 x.ar) := (HF.out.cell (p := ⟨b, _, none⟩) hbw).trans hc1
    clear hs hxw hc0 hc1 hc2 hc3
    by_cases q3 : (t.args.length : Int) = x.ar
    · have HD := Lib.hid (fitsT_hit (g := g) (t := t) hk0 (by rw [HAR.out]; exact decide_eq_true q3))
      have q3' : ((t.args.length : Int) != x.ar) = false := by simpa using q3
      go_enter Tryz.func128, Tryz.ntmps128
      go_wp2
      clear hW1
      go_quiet (fail)
      go_wp2
      go_loopw [5] (fun i wr => KnI g t (w.heap.size + 1) W1 i wr) (fun i _ => t.args.length - (intOf i).toNat)
      case atStart => exact ⟨0, Nat.zero_le _, rfl, rfl, (bl_drew' _ _).mono (by omega)⟩
      case round =>
        obtain ⟨k, hk, rfl, hpre, hB⟩ := hrel
        have HPRE := Lib.hid hpre
        have HB := Lib.hid hB
        have hbz := hB.size
        have hv1 : wr.cell? ⟨w.heap.size, 1, none⟩ = some (.slice a t.args.length c) := (hB.cell (p := ⟨w.heap.size, 1, none⟩) (by simp)).trans ht1
        have HBW := Lib.hid (show Below w.heap.size w wr from HF.out.trans (hB.mono (by omega)))
        clear hpre hB hx1 ht0 ht1
        by_cases hlt : k < t.args.length
        · obtain ⟨b', o', s, a', c', rfl, hbn', hs, hswf, hc1, hc2, hA'⟩ := (HA.out.below (HBW.out.mono hn)).elem (i := k) hlt
          have hk2 : (0 : Int) ≤ (k : Int) := Int.natCast_nonneg _
          have hk3 : (k : Int) < (t.args.length : Int) := by omega
          have HSK := Lib.hid hs
          have CK := Lib.hid (IH.out s (HS.out s (List.mem_of_getElem? hs)) n₀ (some ⟨b, o, none⟩) gc a' c' wr (by omega) (HG.out.below (HBW.out.mono hn)) hA')
          clear hs hswf hA'
          go_wp2_with fail
          refine CK.out.mono ?_
          rintro e w2 ⟨rfl, hb2⟩
          have HB2 := Lib.hid (HB.out.trans (hb2.mono (by omega)))
          have HBW2 := Lib.hid (HBW.out.trans (hb2.mono HBW.out.size))
          clear hb2
          cases hf : fitsT g s with
          | true =>
            have HT := Lib.hid (show fitsL g (t.args.take (k + 1)) = true from by rw [fitsL_take HSK.out, HPRE.out, hf]; rfl)
            clear hf
            go_wp2
            go_roundw
            case rel => exact ⟨k + 1, by omega, by go_num, HT.out, HB2.out⟩
            case measure => simp [intOf]; omega
          | false =>
            have HE := Lib.hid (show fitsT g t = false from by rw [HD.out]; exact fitsL_bad HSK.out hf)
            clear hf
            go_wp2
            go_ret
            exact ⟨by rw [HE.out]; rfl, HBW2.out⟩
        · obtain rfl : k = t.args.length := by omega
          have HE := Lib.hid (show fitsT g t = true from by rw [HD.out]; have := HPRE.out; rwa [List.take_length] at this)
          go_wp2
          go_ret
          exact ⟨by rw [HE.out]; rfl, HBW.out⟩
    · have HD := Lib.hid (fitsT_miss (g := g) (t := t) hk0 (by rw [HAR.out]; exact decide_eq_false q3))
      have q3' : ((t.args.length : Int) != x.ar) = true := by simpa using q3
      go_enter Tryz.func128, Tryz.ntmps128
      go_wp2
      clear hW1
      go_quiet (fail)
      go_wp2
      go_ret
      exact ⟨by rw [HD.out]; rfl, HF.out.trans ((bl_drew' _ _).mono HF.out.size)⟩

theorem r7Truth_any (g : Sg) (t : T) (n₀ : Nat) (ga : Option Addr) (gc : Nat) (a : Option Addr) (c : Nat) (w : World) (hn : n₀ ≤ w.heap.size) (hG : IsSg n₀ w g ga gc) (hA : IsArgs n₀ w t.args a c) :
    Calls Tryz.prog 102 #[.slice ga g.length gc, tm t.head a t.args.length c] w fun e w' => e = .returned (.bool (predS g t.head)) ∧ Below w.heap.size w w' := by
  have hlg : g.length ≤ gc ∧ gc ≤ maxLen := ⟨hG.1, hG.2.1⟩
  unfold maxLen at hlg
  obtain ⟨hl3, hl4⟩ := hlg
  have HF := Lib.hid (show Below w.heap.size w (w.alloc (tmCells t.head a t.args.length c)) from (Below.refl _ w).alloc (Nat.le_refl _) _)
  by_cases q1 : t.head < 0
  · have HD := Lib.hid (show predS g t.head = false from by unfold predS; simp [show ¬ 0 ≤ t.head from by omega])
    clear hG hA
    go_enter Tryz.func102, Tryz.ntmps102
    go_wp2
    go_ret
    exact ⟨by rw [HD.out]; rfl, HF.out⟩
  by_cases q2 : t.head < (g.length : Int)
  · obtain ⟨b, o, x, rfl, hbn, hs, hxw, hc0, hc1, hc2, hc3⟩ := hG.elem (i := t.head.toNat) (by omega)
    have hk0 : (0 : Int) ≤ t.head := by omega
    have HD := Lib.hid (show predS g t.head = x.tr from by unfold predS; rw [hs]; simp [hk0])
    have hbw : b < w.heap.size := by omega
    clear hG hA hs hxw hc0 hc1 hc2
    go_enter Tryz.func102, Tryz.ntmps102
    go_wp2
    go_ret
    exact ⟨by rw [HD.out]; rfl, HF.out⟩
  · have HD := Lib.hid (show predS g t.head = false from by unfold predS; rw [List.getElem?_eq_none (by omega)]; simp)
    clear hG hA
    go_enter Tryz.func102, Tryz.ntmps102
    go_wp2
    go_ret
    exact ⟨by rw [HD.out]; rfl, HF.out⟩

def ThI (g : Sg) (t : T) (B : Nat) (w1 : World) (i : Value) (wr : World) : Prop := ∃ k : Nat, k ≤ t.args.length ∧ i = .int .i64 k ∧ predL g (t.args.take k) = false ∧ Below B w1 wr

set_option maxRecDepth 100000 in
set_option maxHeartbeats 4000000 in
theorem r7things_any (g : Sg) : ∀ (N : Nat) (t : T), t.size ≤ N → ∀ (n₀ : Nat) (ga : Option Addr) (gc : Nat) (a : Option Addr) (c : Nat) (w : World), n₀ ≤ w.heap.size → IsSg n₀ w g ga gc → IsArgs n₀ w t.args a c →
    Calls Tryz.prog 129 #[.slice ga g.length gc, tm t.head a t.args.length c] w fun e w' => e = .returned (.bool (!predL g t.args)) ∧ Below w.heap.size w w' := by
  intro N
  induction N with
  | zero => intro t ht; have := T.size_pos t; omega
  | succ N ih =>
    intro t ht n₀ ga gc a c w hn hG hA
    have IH := Lib.hid ih
    clear ih
    have hlc : t.args.length ≤ c ∧ c ≤ maxLen := ⟨hA.1, hA.2.1⟩
    unfold maxLen at hlc
    obtain ⟨hl1, hl2⟩ := hlc
    have HS := Lib.hid (show ∀ s ∈ t.args, s.size ≤ N from fun s hs => by
      obtain ⟨i, hi⟩ := List.getElem?_of_mem hs
      have h1 := T.size_lt_of_mem hi
      have h2 := T.size_eq t
      omega)
    have HA := Lib.hid hA
    have HG := Lib.hid hG
    clear hA hG
    go_enter Tryz.func129, Tryz.ntmps129
    go_wp2
    obtain ⟨W1, hW1⟩ : ∃ W1, w.alloc (tmCells t.head a t.args.length c) = W1 := ⟨_, rfl⟩
    have HF := Lib.hid (show Below w.heap.size w W1 from by rw [← hW1]; exact (Below.refl _ w).alloc (Nat.le_refl _) _)
    have hs1 : W1.heap.size = w.heap.size + 1 := by rw [← hW1]; simp
    have ht1 : W1.cell? ⟨w.heap.size, 1, none⟩ = some (.slice a t.args.length c) := by rw [← hW1]; simp [go_sem]
    rw [hW1]
    clear hW1
    go_loopw [5] (fun i wr => ThI g t (w.heap.size + 1) W1 i wr) (fun i _ => t.args.length - (intOf i).toNat)
    case atStart => exact ⟨0, Nat.zero_le _, rfl, rfl, Below.refl _ _⟩
    case round =>
      obtain ⟨k, hk, rfl, hpre, hB⟩ := hrel
      have HPRE := Lib.hid hpre
      have HB := Lib.hid hB
      have hbz := hB.size
      have hv1 : wr.cell? ⟨w.heap.size, 1, none⟩ = some (.slice a t.args.length c) := (hB.cell (p := ⟨w.heap.size, 1, none⟩) (by simp)).trans ht1
      have HBW := Lib.hid (show Below w.heap.size w wr from HF.out.trans (hB.mono (by omega)))
      clear hpre hB ht1
      by_cases hlt : k < t.args.length
      · obtain ⟨b', o', s, a', c', rfl, hbn', hs, hswf, hc1, hc2, hA'⟩ := (HA.out.below (HBW.out.mono hn)).elem (i := k) hlt
        have hk2 : (0 : Int) ≤ (k : Int) := Int.natCast_nonneg _
        have hk3 : (k : Int) < (t.args.length : Int) := by omega
        have HSK := Lib.hid hs
        have CT := Lib.hid (r7Truth_any g s n₀ ga gc a' c' wr (by omega) (HG.out.below (HBW.out.mono hn)) hA')
        have CK := Lib.hid (fun (W : World) (hW : Below wr.heap.size wr W) => IH.out s (HS.out s (List.mem_of_getElem? hs)) n₀ ga gc a' c' W (by have := hW.size; omega) (HG.out.below ((HBW.out.trans (hW.mono HBW.out.size)).mono hn)) (hA'.below (hW.mono (by omega))))
        have hbw' : b' < wr.heap.size := by omega
        clear hs hswf hA'
        go_wp2_with fail
        refine CT.out.mono ?_
        rintro e w2 ⟨rfl, hb2⟩
        have HB2 := Lib.hid (HB.out.trans (hb2.mono (by omega)))
        have HBW2 := Lib.hid (HBW.out.trans (hb2.mono HBW.out.size))
        have hb2z := hb2.size
        cases hp : predS g s.head with
        | true =>
          have HE := Lib.hid (show predL g t.args = true from predL_hit HSK.out (by rw [predT_eq, hp]; rfl))
          clear hp hb2
          go_wp2
          go_ret
          exact ⟨by rw [HE.out]; rfl, HBW2.out⟩
        | false =>
          have hv2 : w2.cell? ⟨w.heap.size, 1, none⟩ = some (.slice (some ⟨b', o', none⟩) t.args.length c) := (hb2.cell (p := ⟨w.heap.size, 1, none⟩) (by show w.heap.size < _; omega)).trans hv1
          have hd1 := (hb2.cell (p := ⟨b', o' + k * 2, none⟩) hbw').trans hc1
          have hd2 := (hb2.cell (p := ⟨b', o' + k * 2 + 1, none⟩) hbw').trans hc2
          have CK2 := Lib.hid (CK.out w2 hb2)
          have HPS := Lib.hid hp
          clear hb2 hv1 hc1 hc2 hp CK CT
          go_wp2_with fail
          refine CK2.out.mono ?_
          rintro e w3 ⟨rfl, hb3⟩
          have HB3 := Lib.hid (HB2.out.trans (hb3.mono (by omega)))
          have HBW3 := Lib.hid (HBW2.out.trans (hb3.mono HBW2.out.size))
          clear hb3
          cases hf : predL g s.args with
          | false =>
            have HT := Lib.hid (show predL g (t.args.take (k + 1)) = false from by rw [predL_take HSK.out, HPRE.out, predT_eq, HPS.out, hf]; rfl)
            clear hf
            go_wp2
            go_roundw
            case rel => exact ⟨k + 1, by omega, by go_num, HT.out, HB3.out⟩
            case measure => simp [intOf]; omega
          | true =>
            have HE := Lib.hid (show predL g t.args = true from predL_hit HSK.out (by rw [predT_eq, hf]; simp))
            clear hf
            go_wp2
            go_ret
            exact ⟨by rw [HE.out]; rfl, HBW3.out⟩
      · obtain rfl : k = t.args.length := by omega
        have HE := Lib.hid (show predL g t.args = false from by have := HPRE.out; rwa [List.take_length] at this)
        go_wp2
        go_ret
        exact ⟨by rw [HE.out]; rfl, HBW.out⟩

end Go.Proofs.YtbdabdjpgmnejaaGreat

/- Contract of the document's answer: Term (layer 7). -/
namespace Go.Proofs.YtbdabdjpgmnejaaGreat
set_option linter.unusedVariables false
set_option linter.unusedSimpArgs false
open Go.RowKit

set_option maxRecDepth 100000 in
set_option maxHeartbeats 2000000 in
theorem r7Term_any (g : Sg) (t : T) (hsz : t.size ≤ 1000000000000) (n₀ : Nat) (ga : Option Addr) (gc : Nat) (a : Option Addr) (c : Nat) (w : World) (hn : n₀ ≤ w.heap.size) (hG : IsSg n₀ w g ga gc) (hA : IsArgs n₀ w t.args a c) :
    Calls Tryz.prog 101 #[.slice ga g.length gc, tm t.head a t.args.length c] w fun e w' => e = .returned (.int .i64 (errT g t)) ∧ Below w.heap.size w w' := by
  obtain ⟨W1, hW1⟩ : ∃ W1, w.alloc (tmCells t.head a t.args.length c) = W1 := ⟨_, rfl⟩
  have L1 := Lib.hid (show ∀ W, Below W1.heap.size W1 W → W.cell? ⟨w.heap.size, 0, none⟩ = some (.int .i64 t.head) ∧ W.cell? ⟨w.heap.size, 1, none⟩ = some (.slice a t.args.length c) ∧ IsSg n₀ W g ga gc ∧ IsArgs n₀ W t.args a c ∧ Below w.heap.size w W ∧ n₀ ≤ W.heap.size from fun W hW => by
    have h0 : Below w.heap.size w W1 := by rw [← hW1]; exact (Below.refl _ w).alloc (Nat.le_refl _) _
    have h := h0.trans (hW.mono h0.size)
    exact ⟨(hW.cell (p := ⟨w.heap.size, 0, none⟩) (by rw [← hW1]; simp)).trans (by rw [← hW1]; simp [go_sem]), (hW.cell (p := ⟨w.heap.size, 1, none⟩) (by rw [← hW1]; simp)).trans (by rw [← hW1]; simp [go_sem]), hG.below (h.mono hn), hA.below (h.mono hn), h, Nat.le_trans hn h.size⟩)
  clear hG hA
  go_enter Tryz.func101, Tryz.ntmps101
  go_wp2_with fail
  try rw [hW1]
  obtain ⟨_, _, hG1, _, _, hn1⟩ := L1.out W1 (Below.refl _ _)
  refine (r7Right_any g n₀ ga gc W1 hn1 hG1).mono ?_
  rintro e w2 ⟨rfl, hb2⟩
  have B2 := Lib.hid hb2
  clear hb2 hG1 hW1
  obtain ⟨c0, c1, hG2, hA2, hb, hn2⟩ := L1.out w2 B2.out
  cases hr : rightG g with
  | false =>
    have HD := Lib.hid (show errT g t = 1 from by unfold errT; rw [hr]; rfl)
    have HB := Lib.hid hb
    clear hr hG2 hA2 hb
    go_wp2
    go_ret
    exact ⟨by rw [HD.out]; rfl, HB.out⟩
  | true =>
  have HR := Lib.hid hr
  have CK := Lib.hid (refCheck_any t hsz n₀ a c w2 hn2 hA2)
  clear hr hG2 hA2 hb
  go_wp2_with fail
  refine CK.out.mono ?_
  rintro e w3 ⟨rfl, hb3⟩
  have B3 := Lib.hid (B2.out.trans (hb3.mono B2.out.size))
  clear hb3 c0 c1 B2 CK
  obtain ⟨c0, c1, hG3, hA3, hb, hn3⟩ := L1.out w3 B3.out
  by_cases hc : t.check = 0
  case neg =>
    have HD := Lib.hid (show errT g t = t.check from by unfold errT; rw [HR.out, if_pos rfl, if_neg hc])
    obtain ⟨k, hk⟩ : ∃ k, t.check = k := ⟨_, rfl⟩
    rw [hk] at HD hc ⊢
    have hk0 : (k != 0) = true := by simpa using hc
    have HB := Lib.hid hb
    clear hG3 hA3 hb hc hk
    go_wp2
    go_ret
    exact ⟨by rw [HD.out]; rfl, HB.out⟩
  have HC := Lib.hid hc
  rw [hc]
  have CN := Lib.hid (r7known_any g t.size t (Nat.le_refl _) n₀ ga gc a c w3 hn3 hG3 hA3)
  clear hc hG3 hA3 hb
  go_wp2_with fail
  refine CN.out.mono ?_
  rintro e w4 ⟨rfl, hb4⟩
  have B4 := Lib.hid (B3.out.trans (hb4.mono B3.out.size))
  clear hb4 c0 c1 B3 CN
  obtain ⟨c0, c1, hG4, hA4, hb, hn4⟩ := L1.out w4 B4.out
  cases hf : fitsT g t with
  | false =>
    have HD := Lib.hid (show errT g t = 1 from by unfold errT; rw [HR.out, if_pos rfl, if_pos HC.out, hf]; rfl)
    have HB := Lib.hid hb
    clear hf hG4 hA4 hb
    go_wp2
    go_ret
    exact ⟨by rw [HD.out]; rfl, HB.out⟩
  | true =>
  have HF := Lib.hid hf
  have CT := Lib.hid (r7things_any g t.size t (Nat.le_refl _) n₀ ga gc a c w4 hn4 hG4 hA4)
  clear hf hG4 hA4 hb
  go_wp2_with fail
  refine CT.out.mono ?_
  rintro e w5 ⟨rfl, hb5⟩
  have B5 := Lib.hid (B4.out.trans (hb5.mono B4.out.size))
  clear hb5 c0 c1 B4 CT
  obtain ⟨_, _, _, _, hb, _⟩ := L1.out w5 B5.out
  have HB := Lib.hid hb
  clear hb
  cases hp : predL g t.args with
  | true =>
    have HD := Lib.hid (show errT g t = 10 from by unfold errT; rw [HR.out, if_pos rfl, if_pos HC.out, HF.out, if_pos rfl, hp]; rfl)
    clear hp
    go_wp2
    go_ret
    exact ⟨by rw [HD.out]; rfl, HB.out⟩
  | false =>
    have HD := Lib.hid (show errT g t = 0 from by unfold errT; rw [HR.out, if_pos rfl, if_pos HC.out, HF.out, if_pos rfl, hp]; rfl)
    clear hp
    go_wp2
    go_ret
    exact ⟨by rw [HD.out]; rfl, HB.out⟩

end Go.Proofs.YtbdabdjpgmnejaaGreat
