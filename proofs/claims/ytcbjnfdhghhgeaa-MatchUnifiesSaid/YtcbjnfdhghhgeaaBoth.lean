/- Contract of the reference's Both: two substitutions, one behind the other, over all variables. -/
import Derived.Test.YtcbjnfdhghhgeaaRSb
import Derived.Test.YtcbjnfdhghhgeaaThen
import Derived.Deep.AppendLies
namespace Go.Proofs.Ytcbjnfdhghhgeaa
set_option linter.unusedVariables false
set_option linter.unusedSimpArgs false
open Go.RowKit

theorem allV_get {k : Nat} (h : k < 256) : allV[k]? = some (k : Int) := by
  unfold allV
  rw [List.getElem?_map, List.getElem?_range h]
  rfl
theorem allV_length : allV.length = 256 := by simp [allV]

def okO (v : Value) (wr : World) (b : Nat) : Prop := b < wr.heap.size ∧ v.ownBlock ≠ some b
def BoI (s u : Sb) (w : World) (v i : Value) (wr : World) : Prop :=
  ∃ (k : Nat) (xs : List Value), k ≤ 256 ∧ i = .int .i64 k ∧ (thenL s u (allV.take k)).length ≤ k ∧ wr.ownsRow w.heap.size 43 3 v (thenL s u (allV.take k)).length xs ∧ BVals (okO v wr) wr (thenL s u (allV.take k)) xs ∧ Below w.heap.size w wr

theorem both_step {s u : Sb} {wL wr w5 w6 : World} {k n₀ : Nat} {v : Value} {xs : List Value} {x : T} {a : Option Addr} {c g cap : Nat} (hn : n₀ ≤ wL.heap.size) (hx : thenT s u (k : Int) = x) (hk : k < 256) (hne : x.head ≠ -1 - (k : Int))
    (hxw : (Lit.int .i64 x.head).wf = true) (hlen : (thenL s u (allV.take k)).length ≤ k) (hown : wr.ownsRow wL.heap.size 43 3 v (thenL s u (allV.take k)).length xs)
    (hbv : BVals (okO v wr) wr (thenL s u (allV.take k)) xs) (hB : Below wL.heap.size wL wr) (hb5 : Below wr.heap.size wr w5) (hA : IsArgsp (fun b => b < n₀ ∨ wr.heap.size ≤ b ∧ b < w5.heap.size) w5 x.args a c)
    (hown6 : w6.ownsRow wL.heap.size 43 3 (.slice (some ⟨g, 0, none⟩) ((thenL s u (allV.take k)).length + 1) cap) ((thenL s u (allV.take k)).length + 1) (xs ++ [.int .i64 (k : Int), .int .i64 x.head, .slice a x.args.length c])) (hgrow : w5.grownBy w6 v.ownBlock) (hat : v.ownBlock = some g ∨ g = w5.heap.size) :
    BoI s u wL (.slice (some ⟨g, 0, none⟩) ((thenL s u (allV.take k)).length + 1) cap) (.int .i64 ((k + 1 : Nat) : Int)) w6 := by
  have hlt := hown.lt
  have hL := hB.size
  have hz5 := hb5.size
  have hz6 := hgrow.size
  have hst : thenL s u (allV.take (k + 1)) = thenL s u (allV.take k) ++ [((k : Int), x)] := by rw [thenL_step (allV_get hk), hx, if_neg hne]
  refine ⟨k + 1, xs ++ [.int .i64 (k : Int), .int .i64 x.head, .slice a x.args.length c], by omega, rfl, by rw [hst, List.length_append]; simp; omega, by rw [hst, List.length_append]; exact hown6, ?_, ?_⟩
  · rw [hst]
    have hkeep : ∀ b, b < w5.heap.size → v.ownBlock ≠ some b → w6.heap[b]? = w5.heap[b]? := fun b h1 h2 => hgrow.block b h1 (fun e => h2 e.symm)
    have hg : ∀ b, b < w5.heap.size → v.ownBlock ≠ some b → g ≠ b := fun b h1 h2 e => by
      subst e
      rcases hat with h | h
      · exact h2 h
      · omega
    have hA' : ∀ b, (b < n₀ ∨ wr.heap.size ≤ b ∧ b < w5.heap.size) → b < w5.heap.size ∧ v.ownBlock ≠ some b := fun b hb => by
      rcases hb with hb | hb
      · exact ⟨by omega, fun e => by have := hlt _ e; omega⟩
      · exact ⟨hb.2, fun e => by have := hlt _ e; omega⟩
    refine BVals.snoc (WalkArith.wf_i64 ⟨by omega, by omega⟩) hxw (hA.keep (fun b hb => hkeep b (hA' b hb).1 (hA' b hb).2) (fun b hb => ⟨by have := (hA' b hb).1; omega, ?_⟩)) (hbv.keep (fun b hb => (hkeep b (by have := hb.1; omega) hb.2).trans (hb5.block b hb.1)) (fun b hb => ⟨by have := hb.1; omega, ?_⟩))
    · simp only [Value.ownBlock, ne_eq, Option.some.injEq]
      exact hg b (hA' b hb).1 (hA' b hb).2
    · simp only [Value.ownBlock, ne_eq, Option.some.injEq]
      exact hg b (by have := hb.1; omega) hb.2
  · exact (hB.trans (hb5.mono hL)).grown hgrow (by omega) (fun q hq => (hlt q hq).1)

def BothPost (s u : Sb) (w : World) (e : Ending) (w' : World) : Prop :=
  ∃ a c, e = .returned (.slice a (thenL s u allV).length c) ∧ IsBs w'.heap.size w' (thenL s u allV) a c ∧ Below w.heap.size w w'

set_option maxRecDepth 100000 in
set_option maxHeartbeats 4000000 in
theorem refBoth_any (s u : Sb) (hsz : ∀ z, (ofS s z).size ≤ 1000000000000) (n₀ : Nat) (a : Option Addr) (c : Nat) (a' : Option Addr) (c' : Nat) (w : World) (hn : n₀ ≤ w.heap.size) (hS : IsBs n₀ w s a c) (hU : IsBs n₀ w u a' c') :
    Calls Try.prog 114 #[.slice a s.length c, .slice a' u.length c'] w (BothPost s u w) := by
  have HSZ := Lib.hid hsz
  have LS := Lib.hid (show ∀ W, Below w.heap.size w W → IsBs n₀ W s a c ∧ IsBs n₀ W u a' c' ∧ n₀ ≤ W.heap.size from fun W hW => ⟨hS.below (hW.mono hn), hU.below (hW.mono hn), Nat.le_trans hn hW.size⟩)
  clear hS hU hsz
  obtain ⟨i0, hi, hz0, hz1, hz2⟩ := info_parts infoBind
  go_enter Try.func114, Try.ntmps114
  go_wp2
  go_loopw [5, 6] (fun v i wr => BoI s u w v i wr) (fun _ i _ => 256 - (intOf i).toNat)
  case atStart => exact ⟨0, [], Nat.zero_le _, rfl, Nat.le_refl _, World.ownsRow_nil _ _ _ _, trivial, Below.refl _ _⟩
  case round =>
    obtain ⟨k, xs, hk, rfl, hLL, hrow, hbv, hB⟩ := hrel
    have HROW := Lib.hid hrow
    have HBV := Lib.hid hbv
    have HB := Lib.hid hB
    have hbz := hB.size
    clear hrow hbv hB
    by_cases hlt : k < 256
    · have hk1 : (k : Int) ≤ 255 := by omega
      go_wp2_with fail
      have ls := LS.out wr HB.out
      refine (refOf_any s (k : Int) n₀ a c wr ls.2.2 (by omega) (by omega) ls.1).mono ?_
      clear ls
      rintro e w2 ⟨at_, ct, rfl, htw, htA, hb2⟩
      have hB2 := HB.out.trans (hb2.mono hbz)
      have ls := LS.out w2 hB2
      have CR := refSub_any u _ (ofS s (k : Int)) (Nat.le_refl _) (HSZ.out _) n₀ at_ ct a' c' w2 ls.2.2 htw htA ls.2.1
      rw [show (ofS s (k : Int)).sub (ofS u) = thenT s u (k : Int) from rfl] at CR
      have HCR := Lib.hid CR
      have HB2 := Lib.hid hb2
      obtain ⟨x, hx⟩ : ∃ x, thenT s u (k : Int) = x := ⟨_, rfl⟩
      rw [hx] at HCR
      have HX := Lib.hid hx
      generalize ofS s (k : Int) = y at HCR ⊢
      clear CR htw htA hb2 hx ls hB2
      go_wp2_with fail
      refine HCR.out.mono ?_
      rintro e w3 ⟨a3, c3, rfl, hw3, hI3, hb3⟩
      have HW3 := Lib.hid hw3
      have hB3 : Below wr.heap.size wr w3 := HB2.out.trans (hb3.mono HB2.out.size)
      have hz3 := hB3.size
      have hz2' := HB2.out.size
      have HI3 := Lib.hid (show IsArgsp (fun b => b < n₀ ∨ wr.heap.size ≤ b ∧ b < w3.heap.size) w3 x.args a3 c3 from hI3.mono (fun b hb => hb.imp id (fun h => ⟨by have := h.1; omega, h.2⟩)))
      have HB3 := Lib.hid hB3
      clear hw3 hI3 hb3 HCR hB3
      by_cases qv : x.head = -1 - (k : Int)
      · have QV := Lib.hid qv
        have qd : (x.head == -1 - (k : Int)) = true := by simpa using qv
        clear qv
        go_wp2
        go_roundw
        case rel =>
          have hst : thenL s u (allV.take (k + 1)) = thenL s u (allV.take k) := by rw [thenL_step (allV_get hlt), HX.out, if_pos QV.out, List.append_nil]
          have hB4 : Below wr.heap.size wr (w3.alloc (tmCells x.head a3 x.args.length c3)) := HB3.out.alloc hz3 _
          refine ⟨k + 1, xs, by omega, by go_num, by rw [hst]; omega, by rw [hst]; exact ownsRow_later HROW.out hB4, ?_, HB.out.trans (hB4.mono hbz)⟩
          rw [hst]
          exact HBV.out.keep (fun b hb => hB4.block b hb.1) (fun b hb => ⟨by have := hb.1; simp; omega, hb.2⟩)
        case measure => simp [intOf]; omega
      · have QV := Lib.hid qv
        have qd : (x.head == -1 - (k : Int)) = false := by simpa using qv
        clear qv
        obtain ⟨w6, hw6⟩ : ∃ w6, w3.alloc (.cells #[.int .i64 x.head, .slice a3 x.args.length c3] 25) = w6 := ⟨_, rfl⟩
        have hB6 : Below wr.heap.size wr w6 := by rw [← hw6]; exact HB3.out.alloc hz3 _
        have HI6 := Lib.hid (show IsArgsp (fun b => b < n₀ ∨ wr.heap.size ≤ b ∧ b < w3.heap.size) w6 x.args a3 c3 by
          rw [← hw6]
          refine HI3.out.keep (fun b hb => Below.heap_alloc _ _ _ ?_) (fun b hb => hb)
          rcases hb with hb | hb <;> omega)
        have hz6 : w6.heap.size = w3.heap.size + 1 := by rw [← hw6]; simp
        have d0 : w6.cell? ⟨w3.heap.size, 0, none⟩ = some (.int .i64 x.head) := by rw [← hw6]; simp [go_sem]
        have d1 : w6.cell? ⟨w3.heap.size, 1, none⟩ = some (.slice a3 x.args.length c3) := by rw [← hw6]; simp [go_sem]
        have hrow6 := ownsRow_later HROW.out hB6
        have hbase : w.heap.size ≤ w6.heap.size := by omega
        have hkm : (thenL s u (allV.take k)).length + 1 ≤ maxLen := by unfold maxLen; omega
        have HB6 := Lib.hid hB6
        have HZ6 := Lib.hid hz6
        clear hB6 hz6
        go_wp2_with (first | (at_builtin; refine wpList_append_lies _ (by rfl) _ _ 22 (by rfl) w.heap.size 43 i0 _ 3 40 Try.underlying22 hi hz0 hz1 hz2 rfl (by omega) _ _ xs (by rfl) (hrow6.alloc _) ⟨w6.heap.size, 0, none⟩ 1 1 [.int .i64 (k : Int), .int .i64 x.head, .slice a3 x.args.length c3] (by rfl) (by rfl) (World.news_of_block (cs := #[.int .i64 (k : Int), .int .i64 x.head, .slice a3 x.args.length c3]) (t := 43) (fr := (0, 0)) (heap_alloc_new w6 _)) (by simp [Value.oneCell']) (by omega) hkm (by omega) (by simp; omega) (w6.heap.size + 1) (by simp) ?_; intro g cap w8 hown8 hgrow8 hat8 hlt8) | go_in)
        go_roundw
        case rel =>
          have h6 := HZ6.out
          have hB7 : Below wr.heap.size wr (w6.alloc (.cells #[.int .i64 (k : Int), .int .i64 x.head, .slice a3 x.args.length c3] 43)) := HB6.out.alloc HB6.out.size _
          have h := both_step (n₀ := n₀) hn HX.out hlt QV.out HW3.out hLL HROW.out HBV.out HB.out hB7 (HI6.out.keep (fun b hb => Below.heap_alloc _ _ _ (by rcases hb with hb | hb <;> omega)) (fun b hb => hb.imp id (fun hb => ⟨hb.1, by have := hb.2; simp; omega⟩))) hown8 hgrow8 (by simpa using hat8)
          exact h
        case measure => simp [intOf]; omega
    · obtain rfl : k = 256 := by omega
      have hrow := HROW.out
      have hbv := HBV.out
      rw [List.take_of_length_le (by rw [allV_length]; omega)] at hrow hbv
      obtain ⟨ar, cr, hvv, hBs⟩ := isBs_of_owns (n := wr.heap.size) hrow hbv (fun b hb => hb.1) (fun g hg => by have := hrow.lt g hg; omega)
      subst hvv
      have HBS := Lib.hid hBs
      clear hrow hbv hBs HROW HBV hLL
      go_wp2
      go_ret
      exact ⟨ar, cr, rfl, HBS.out, HB.out⟩

end Go.Proofs.Ytcbjnfdhghhgeaa
