/- Contracts of Under and Apart, of few, and of the comparison of lists of positions. -/
import Derived.Test.YtdigccbffphilaaInts
import Derived.Test.YtdigccbffphilaaCount
namespace Go.Proofs.Ytdigccbffphilaa
set_option linter.unusedVariables false
set_option linter.unusedSimpArgs false
open Go.RowKit

def underB (p q : List Int) : Bool := decide (p.length ≤ q.length) && decide (p = q.take p.length)
def apartB (p q : List Int) : Bool := !underB p q && !underB q p
theorem underB_iff {p q : List Int} : underB p q = true ↔ p <+: q := by
  simp only [underB, Bool.and_eq_true, decide_eq_true_eq]
  constructor
  · rintro ⟨_, h⟩; rw [h]; exact List.take_prefix _ _
  · intro h; exact ⟨h.length_le, List.prefix_iff_eq_take.1 h⟩
theorem IsIs.take {n₀ : Nat} {w : World} {zs : List Int} {a : Option Addr} {c : Nat} (h : IsIs n₀ w zs a c) (n : Nat) : IsIs n₀ w (zs.take n) a c := by
  obtain ⟨h1, h2, h3⟩ := h
  refine ⟨by rw [List.length_take]; omega, h2, ?_⟩
  rcases h3 with rfl | ⟨b, o, h4, h5, h6⟩
  · exact .inl (by simp)
  · exact .inr ⟨b, o, h4, h5, fun j z hz => h6 j z (by rw [List.getElem?_take] at hz; split at hz; exact hz; cases hz)⟩

set_option maxHeartbeats 1000000 in
theorem under_any (p q : List Int) (n₀ : Nat) (a : Option Addr) (c : Nat) (a' : Option Addr) (c' : Nat) (w : World) (hn : n₀ ≤ w.heap.size) (hP : IsIs n₀ w p a c) (hQ : IsIs n₀ w q a' c') :
    Calls Try.prog 42 #[.slice a p.length c, .slice a' q.length c'] w fun e w' => e = .returned (.bool (underB p q)) ∧ Below w.heap.size w w' := by
  have hz : p.length ≤ c ∧ c ≤ maxLen := ⟨hP.1, hP.2.1⟩
  have hy : q.length ≤ c' ∧ c' ≤ maxLen := ⟨hQ.1, hQ.2.1⟩
  unfold maxLen at hz hy
  obtain ⟨hz1, hz2⟩ := hz
  obtain ⟨hy1, hy2⟩ := hy
  by_cases hl : p.length ≤ q.length
  · have hC : Calls Try.prog 68 #[.slice a p.length c, .slice a' p.length c'] w fun e w' => e = .returned (.bool (underB p q)) ∧ Below w.heap.size w w' := by
      have h := equal_any p (q.take p.length) n₀ a c a' c' w hn hP (hQ.take _)
      rw [List.length_take, Nat.min_eq_left hl] at h
      refine h.mono fun e w' hh => ⟨?_, hh.2⟩
      rw [hh.1, underB, decide_eq_true hl, Bool.true_and]
    have HC := Lib.hid hC
    clear hC hP hQ
    have hl1 : decide ((p.length : Int) ≤ (q.length : Int)) = true := by simp; omega
    have hl2 : decide (p.length ≤ q.length) = true := by simpa using hl
    have hlc : (p.length : Int) ≤ (c' : Int) := by omega
    go_enter Try.func42, Try.ntmps42
    go_wp2_with fail
    refine HC.out.mono ?_
    rintro e w2 ⟨rfl, hb⟩
    have HB := Lib.hid hb
    clear hb
    go_wp2
    go_ret
    exact ⟨by simp, HB.out⟩
  · have hl1 : decide ((p.length : Int) ≤ (q.length : Int)) = false := by simp; omega
    have hl2 : decide (p.length ≤ q.length) = false := by simpa using hl
    clear hP hQ
    go_enter Try.func42, Try.ntmps42
    go_wp2
    go_ret
    exact ⟨by simp [underB, hl2], Below.refl _ _⟩

theorem few2_any (t : T) (p : List Int) (n₀ : Nat) (a : Option Addr) (c : Nat) (ap : Option Addr) (cp : Nat) (w : World) (hn : n₀ ≤ w.heap.size) (hA : IsArgs n₀ w t.args a c) (hp : p.length ≤ cp) (hcp : cp ≤ maxLen) :
    Calls Try.prog 9 #[tm t.head a t.args.length c, .slice ap p.length cp] w fun e w' => e = .returned (.bool (decide (t.size ≤ 500) && decide (p.length ≤ 100))) ∧ Below w.heap.size w w' := by
  have hb1 : Below w.heap.size w (w.alloc (tmCells t.head a t.args.length c)) := (Below.refl _ w).alloc (Nat.le_refl _) _
  have hC := few_any t n₀ a c (w.alloc (tmCells t.head a t.args.length c)) (Nat.le_trans hn hb1.size) (hA.below (hb1.mono hn))
  have HC := Lib.hid hC
  have HB1 := Lib.hid hb1
  unfold maxLen at hcp
  clear hC hb1 hA
  go_enter Try.func9, Try.ntmps9
  go_wp2_with fail
  refine HC.out.mono ?_
  rintro e w2 ⟨rfl, hb⟩
  have HB := Lib.hid (HB1.out.trans (hb.mono HB1.out.size))
  clear hb
  by_cases hx : t.size ≤ 500
  · rw [show decide (t.size ≤ 500) = true from by simpa using hx]
    go_wp2
    go_ret
    refine ⟨?_, HB.out⟩
    by_cases h : p.length ≤ 100 <;> simp [h, hx] <;> omega
  · rw [show decide (t.size ≤ 500) = false from by simpa using hx]
    go_wp2
    go_ret
    exact ⟨by simp [hx], HB.out⟩

/-- A list of positions in memory. -/
def IsLs (n₀ : Nat) (w : World) (L : List (List Int)) (a : Option Addr) (c : Nat) : Prop :=
  L.length ≤ c ∧ c ≤ maxLen ∧ (L = [] ∨ ∃ b o, a = some ⟨b, o, none⟩ ∧ b < n₀ ∧ ∀ (j : Nat) (zs : List Int), L[j]? = some zs → ∃ a' c', w.cell? ⟨b, o + j, none⟩ = some (.slice a' zs.length c') ∧ IsIs n₀ w zs a' c')
theorem IsLs.keep {n₀ n₁ : Nat} {w w' : World} {L : List (List Int)} {a : Option Addr} {c : Nat} (h : IsLs n₀ w L a c) (hb : ∀ b, b < n₀ → w'.heap[b]? = w.heap[b]?) (hn : n₀ ≤ n₁) : IsLs n₁ w' L a c := by
  obtain ⟨h1, h2, h3⟩ := h
  refine ⟨h1, h2, ?_⟩
  rcases h3 with h3 | ⟨b, o, h4, h5, h6⟩
  · exact .inl h3
  · refine .inr ⟨b, o, h4, by omega, fun j z hz => ?_⟩
    obtain ⟨a', c', h7, h8⟩ := h6 j z hz
    exact ⟨a', c', (World.cell?_of_block (a := ⟨b, o + j, none⟩) (hb b h5)).trans h7, h8.keep hb hn⟩
theorem IsLs.below {n₀ : Nat} {w w' : World} {L : List (List Int)} {a : Option Addr} {c : Nat} (h : IsLs n₀ w L a c) (hb : Below n₀ w w') : IsLs n₀ w' L a c := h.keep (fun b h => hb.block b h) (Nat.le_refl _)
theorem IsLs.elem {n₀ : Nat} {w : World} {L : List (List Int)} {a : Option Addr} {c : Nat} (h : IsLs n₀ w L a c) {k : Nat} (hk : k < L.length) : ∃ (b o : Nat) (zs : List Int) (a' : Option Addr) (c' : Nat), a = some ⟨b, o, none⟩ ∧ b < n₀ ∧ L[k]? = some zs ∧ w.cell? ⟨b, o + k, none⟩ = some (.slice a' zs.length c') ∧ IsIs n₀ w zs a' c' := by
  rcases h.2.2 with rfl | ⟨b, o, h4, h5, h6⟩
  · simp at hk
  · obtain ⟨a', c', h7, h8⟩ := h6 k _ (List.getElem?_eq_getElem hk)
    exact ⟨b, o, L[k], a', c', h4, h5, List.getElem?_eq_getElem hk, h7, h8⟩
theorem PosV.isIs {lo : Nat} {W : World} {p : List Int} {x : Value} (h : PosV lo W p x) : ∃ a c, x = .slice a p.length c ∧ IsIs W.heap.size W p a c := by
  obtain ⟨g, cap, cur, h1, _, h3, h4, h5, h6⟩ := h
  exact ⟨_, _, h1, h4, h5, .inr ⟨g, 0, rfl, (Array.getElem?_eq_some_iff.1 h3).1, fun j z hz => by simpa using h6 j z hz⟩⟩
theorem isLs_of_owns {lo base : Nat} {W : World} {v : Value} {L : List (List Int)} {xs : List Value} (h : W.ownsRow base 25 1 v L.length xs) (hp : PosVs lo W L xs) : ∃ a c, v = .slice a L.length c ∧ IsLs W.heap.size W L a c := by
  have hcells := fun g hg => h.cells (g := g) hg
  rcases h.2 with ⟨rfl, h0⟩ | ⟨g, cap, cur, rfl, hg, hh, hn, hc, _⟩
  · exact ⟨none, 0, by rw [h0], by omega, by simp [maxLen], .inl (List.eq_nil_of_length_eq_zero h0)⟩
  · refine ⟨_, cap, rfl, hn, hc, .inr ⟨g, 0, rfl, (Array.getElem?_eq_some_iff.1 hh).1, fun j zs hj => ?_⟩⟩
    obtain ⟨x, hx, hpx⟩ := hp.get hj
    obtain ⟨a', c', rfl, h2⟩ := hpx.isIs
    have := hcells g rfl j _ hx
    rw [addr_add] at this
    exact ⟨a', c', this, h2⟩

def LsI (L M : List (List Int)) (w : World) (i : Value) (wr : World) : Prop := ∃ k : Nat, k ≤ L.length ∧ i = .int .i64 k ∧ L.take k = M.take k ∧ Below w.heap.size w wr

set_option maxRecDepth 100000 in
set_option maxHeartbeats 1000000 in
theorem same2_any (L M : List (List Int)) (n₀ : Nat) (a : Option Addr) (c : Nat) (a' : Option Addr) (c' : Nat) (w : World) (hn : n₀ ≤ w.heap.size) (hL : IsLs n₀ w L a c) (hM : IsLs n₀ w M a' c') :
    Calls Try.prog 17 #[.slice a L.length c, .slice a' M.length c'] w fun e w' => e = .returned (.bool (decide (L = M))) ∧ Below w.heap.size w w' := by
  have hz : L.length ≤ c ∧ c ≤ maxLen := ⟨hL.1, hL.2.1⟩
  have hy : M.length ≤ c' ∧ c' ≤ maxLen := ⟨hM.1, hM.2.1⟩
  unfold maxLen at hz hy
  obtain ⟨hz1, hz2⟩ := hz
  obtain ⟨hy1, hy2⟩ := hy
  have HZ := Lib.hid hL
  have HY := Lib.hid hM
  clear hL hM
  by_cases hl : L.length = M.length
  · have hl1 : ((L.length : Int) != (M.length : Int)) = false := by simp; omega
    have hl2 : (L.length != M.length) = false := by simp; omega
    have HL := Lib.hid hl
    clear hl
    go_enter Try.func17, Try.ntmps17
    go_wp2
    go_loopw [5] (fun i wr => LsI L M w i wr) (fun i _ => L.length - (intOf i).toNat)
    case atStart => exact ⟨0, Nat.zero_le _, rfl, rfl, Below.refl _ _⟩
    case round =>
      obtain ⟨k, hk, rfl, htk, hB⟩ := hrel
      have HTK := Lib.hid htk
      have HB := Lib.hid hB
      clear htk
      by_cases hlt : k < L.length
      · obtain ⟨b, o, z, a1, c1, rfl, hb, hzk, hcz, hI1⟩ := (HZ.out.below (hB.mono hn)).elem hlt
        obtain ⟨b', o', y, a2, c2, rfl, hb', hyk, hcy, hI2⟩ := (HY.out.below (hB.mono hn)).elem (k := k) (by have := HL.out; omega)
        have HZK := Lib.hid hzk
        have HYK := Lib.hid hyk
        have hlt' : k < M.length := by have := HL.out; omega
        have hC : ∀ W, Below wr.heap.size wr W → Calls Try.prog 43 #[.slice a1 z.length c1, .slice a2 y.length c2] W fun e w' => e = .returned (.bool (decide (z = y))) ∧ Below W.heap.size W w' := fun W hW => ints_any z y n₀ a1 c1 a2 c2 W (Nat.le_trans hn (Nat.le_trans hB.size hW.size)) (hI1.below (hW.mono (Nat.le_trans hn hB.size))) (hI2.below (hW.mono (Nat.le_trans hn hB.size)))
        have HC := Lib.hid hC
        clear hzk hyk hB hC hI1 hI2
        go_wp2
        have f1 := fun d os => cell_regrown hcz d os
        have f2 := fun d os => cell_regrown hcy d os
        refine wp_region_quiet_below (by kernel_rfl) (by kernel_rfl) ?_
        repeat (quiet_step (with_reducible exact Calls.regrown_of (HC.out _ (below_regrown _ _ _))))
        refine wpQuiet_nil ?_
        intro _ hw'
        obtain ⟨⟨dq, osq⟩, hw''⟩ := hw'
        subst hw''
        by_cases e : z = y
        · rw [decide_eq_true e]
          go_wp2
          go_roundw
          case rel => exact ⟨k + 1, by omega, by go_num, take_succ_eq HTK.out HZK.out (by rw [HYK.out, e]), HB.out.trans ((below_regrown wr dq osq).mono HB.out.size)⟩
          case measure => simp [intOf]; omega
        · rw [decide_eq_false e]
          go_wp2
          go_ret
          refine ⟨?_, HB.out.trans ((below_regrown wr dq osq).mono HB.out.size)⟩
          rw [decide_eq_false (fun h => e (by have h1 := HZK.out; rw [h, HYK.out] at h1; exact (Option.some.inj h1).symm))]; rfl
      · obtain rfl : k = L.length := by omega
        clear hB
        go_wp2
        go_ret
        refine ⟨?_, HB.out⟩
        rw [decide_eq_true (take_eq_all HL.out HTK.out)]; rfl
  · have hl1 : ((L.length : Int) != (M.length : Int)) = true := by simp; omega
    have hl2 : (L.length != M.length) = true := by simp; omega
    go_enter Try.func17, Try.ntmps17
    go_wp2
    go_ret
    refine ⟨?_, Below.refl _ _⟩
    rw [decide_eq_false (fun h => hl (by rw [h]))]; rfl

end Go.Proofs.Ytdigccbffphilaa
