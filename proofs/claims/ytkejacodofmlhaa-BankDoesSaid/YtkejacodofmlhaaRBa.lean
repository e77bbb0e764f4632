/- Contract of the reference's Args; two rows of the same numbers. -/
import Derived.Test.YtkejacodofmlhaaRBm
import Derived.Test.YtkejacodofmlhaaSame
import Derived.Laws.AppendOwnNone
namespace Go.Proofs.Ytkejacodofmlhaa
set_option linter.unusedVariables false
set_option linter.unusedSimpArgs false
open Go.RowKit Go.Maps

theorem ints_both (u v : Value) (zs : List Int) (w : World) (hu : IsInts w u zs) (hv : IsInts w v zs) :
    Calls Try.prog 24 #[u, v] w fun e w' => e = .returned (.bool true) ∧ Below w.heap.size w w' := by
  by_cases hne : zs = []
  · subst hne
    have hu' : ∃ a c, u = .slice a 0 c := by
      rcases hu with ⟨h, _⟩ | ⟨g, cap, h, _⟩
      · exact ⟨none, 0, h⟩
      · exact ⟨_, _, h⟩
    have hv' : ∃ a c, v = .slice a 0 c := by
      rcases hv with ⟨h, _⟩ | ⟨g, cap, h, _⟩
      · exact ⟨none, 0, h⟩
      · exact ⟨_, _, h⟩
    obtain ⟨a, c, rfl⟩ := hu'
    obtain ⟨a', c', rfl⟩ := hv'
    clear hu hv
    go_enter Try.func24, Try.ntmps24
    go_wp2
    go_loopw [5] (fun i wr => i = .int .i64 0 ∧ Below w.heap.size w wr) (fun _ _ => 0)
    case atStart => exact ⟨rfl, Below.refl _ _⟩
    case round =>
      obtain ⟨rfl, hB⟩ := hrel
      have HB := Lib.hid hB
      clear hB
      go_wp2
      go_ret
      exact ⟨rfl, HB.out⟩
  · exact ints_same u v zs w hne hu hv

/-! ### Args -/
def refIds (L : List T) (ts : List T) : List Int := ts.map (fun s => (((fi L s).getD 0 : Nat) : Int))
def RAPost (L : List T) (id : Int) (w : World) (e : Ending) (w' : World) : Prop :=
  (chkI L.length id = 0 ∧ ∃ t v, L[id.toNat]? = some t ∧ e = .returned (.tuple #[v, .int .i64 0]) ∧ IsInts w' v (refIds L t.args) ∧ Below w.heap.size w w') ∨
    (chkI L.length id = 6 ∧ e = .returned (.tuple #[.slice none 0 0, .int .i64 6]) ∧ Below w.heap.size w w')
def RAI (G : Nat → Prop) (L : List T) (ts : List T) (w w2 : World) (v : Value) (i : Value) (wr : World) : Prop :=
  ∃ k : Nat, k ≤ ts.length ∧ i = .int .i64 k ∧ wr.ownsRow (w2.heap.size) 3 1 v k ((refIds L (ts.take k)).map (Value.int .i64)) ∧ Below w2.heap.size w2 wr

set_option maxRecDepth 100000 in
set_option maxHeartbeats 4000000 in
theorem refArgs_any (B : Nat) (G : Nat → Prop) (rb : Nat) (L : List T) (hL : ∀ u ∈ L, u.size ≤ 400) (id : Int) (w : World) (hG : RBk B G w rb L) :
    Calls Try.prog 22 #[.pointer (some ⟨rb, 0, none⟩), .int .i64 id] w (RAPost L id w) := by
  obtain ⟨sa, sc, g0⟩ := hG.len
  have hrb := hG.lt
  rcases chk_cases L.length id with ⟨hc, h0, hlt⟩ | ⟨hc, hbad⟩
  · obtain ⟨g, cap, t, at_, ct, r0, hg, hc1, hc2, hu, huw, d0, d1, hAt⟩ := hG.elem hlt
    obtain ⟨i, rfl⟩ := Int.eq_ofNat_of_zero_le h0
    simp only [Int.toNat_natCast] at hlt hu d0 d1
    have hi1 : (i : Int) < (L.length : Int) := by omega
    have hi2 : decide ((i : Int) < 0) = false := decide_eq_false (by omega)
    have hi3 : decide (L.length ≤ i) = false := decide_eq_false (by omega)
    have htz := hL t (List.mem_of_getElem? hu)
    have hta := T.size_eq t
    have htl := T.sizes_ge_length t.args
    have hcl : t.args.length ≤ ct := hAt.1
    have hcm : ct ≤ maxLen := hAt.2.1
    unfold maxLen at hc2 hcm
    obtain ⟨w2, hw2⟩ : ∃ w2, w.alloc (.cells #[.int .i64 t.head, .slice at_ t.args.length ct] 24) = w2 := ⟨_, rfl⟩
    have hb2 : Below w.heap.size w w2 := by rw [← hw2]; exact (Below.refl _ _).alloc (Nat.le_refl _) _
    have hz2 : w2.heap.size = w.heap.size + 1 := by rw [← hw2]; simp
    have q1 : w2.cell? ⟨w.heap.size, 1, none⟩ = some (.slice at_ t.args.length ct) := by rw [← hw2]; simp
    have HR := Lib.hid (show ∀ W, Below w2.heap.size w2 W → W.cell? ⟨w.heap.size, 1, none⟩ = some (.slice at_ t.args.length ct) ∧ RBk B G W rb L ∧ IsArgs W.heap.size W t.args at_ ct from fun W hW => by
      have hb := hb2.trans (hW.mono hb2.size)
      exact ⟨Mm.cell_via hW (by simp; omega) q1, hG.later hb, ((hAt.toArgs (fun b hb => hb.2)).below hb).mono hb.size⟩)
    have HU := Lib.hid hu
    have HC := Lib.hid hc
    have HB2 := Lib.hid hb2
    have HZ2 := Lib.hid hz2
    have HL := Lib.hid hL
    have HTA := Lib.hid hta
    obtain ⟨i0, hi, hz0, hz1, hz3⟩ := info_parts info3
    have hl4 : t.args.length ≤ 400 := by omega
    clear hG hu hAt hc g0 huw hb2 hz2 q1 hL hta htl
    go_enter Try.func22, Try.ntmps22
    go_wp2
    go_loopw [6, 8] (fun v iv wr => RAI G L t.args w w2 v iv wr) (fun _ iv _ => t.args.length - (intOf iv).toNat)
    case atStart => exact ⟨0, Nat.zero_le _, rfl, World.ownsRow_nil _ _ _ _, Below.refl _ _⟩
    case round =>
      obtain ⟨k, hk, rfl, hown, hB⟩ := hrel
      have hzb := hB.size
      obtain ⟨p1, hR, hAr⟩ := HR.out wr hB
      have HO := Lib.hid hown
      have HB := Lib.hid hB
      have hk0 : (0 : Int) ≤ (k : Int) := Int.natCast_nonneg _
      have hwl : w.heap.size < wr.heap.size := by have := HZ2.out; omega
      clear hown hB
      by_cases hlt2 : k < t.args.length
      · obtain ⟨b, o, s, a', c', rfl, hbn, hs, hsw, e0, e1, hAs⟩ := hAr.elem (i := k) hlt2
        have hk1 : (k : Int) < (t.args.length : Int) := by omega
        have hss := T.size_lt_of_mem hs
        have CF := refFind_any B G rb L (fun u hu => by have := HL.out u hu; omega) s (by have := HTA.out; omega) wr.heap.size a' c' wr (Nat.le_refl _) hR hAs
        unfold SrPost at CF
        obtain ⟨x, y, hxy⟩ : ∃ (x : Nat) (y : Bool), foundR (fi L s) = .tuple #[.int .i64 (x : Int), .bool y] ∧ x = (fi L s).getD 0 := ⟨_, _, rfl, rfl⟩
        rw [hxy.1] at CF
        have CF' := Lib.hid CF
        have HSTEP := Lib.hid (show refIds L (t.args.take (k + 1)) = refIds L (t.args.take k) ++ [(x : Int)] from by
          obtain ⟨hkl, hke⟩ := List.getElem?_eq_some_iff.1 hs
          rw [List.take_succ_eq_append_getElem hkl, hke, hxy.2]
          simp [refIds])
        have hrl : (refIds L (t.args.take k)).length = k := by simp [refIds]; omega
        clear hs hsw hAs hR hAr hxy CF hss
        go_wp2_with fail
        refine CF'.out.mono ?_
        rintro e w3 ⟨rfl, hb3⟩
        have ho3 := ownsRow_later HO.out hb3
        have hz3' := hb3.size
        have HB3 := Lib.hid (HB.out.trans (hb3.mono hzb))
        clear hb3 CF'
        go_wp2_with (first | (at_builtin; refine wpList_append_lies _ (by rfl) _ _ 48 (by rfl) w2.heap.size 3 i0 _ 1 8 Try.underlying48 hi hz0 hz1 hz3 rfl (by omega) _ k _ (by rfl) (ho3.alloc _) ⟨w3.heap.size, 0, none⟩ 1 1 [.int .i64 (x : Int)] (by rfl) (by rfl) (World.news_of_block (cs := #[.int .i64 (x : Int)]) (t := 3) (fr := (0, 0)) (heap_alloc_new w3 _)) (by simp [Value.oneCell']) (by omega) (by unfold maxLen; omega) (by omega) (by simp; omega) (w3.heap.size + 1) (by simp) ?_; intro g5 cap5 w5 hown5 hgrow5 hat5 hlt5) | go_in)
        go_roundw
        case rel =>
          have hb5 : Below w2.heap.size w3 w5 := ((Below.refl w2.heap.size w3).alloc (by omega) _).grown hgrow5 (by simp; omega) (fun j hj => (HO.out.lt j hj).1)
          refine ⟨k + 1, by omega, by go_num, ?_, HB3.out.trans hb5⟩
          rw [HSTEP.out]
          simpa using hown5
        case measure => simp [intOf]; omega
      · obtain rfl : k = t.args.length := by omega
        have hO := HO.out
        rw [List.take_length] at hO
        have hrl : (refIds L t.args).length = t.args.length := by simp [refIds]
        obtain ⟨a9, c9, rfl, hI9, _⟩ := isInts_of_owns (zs := refIds L t.args) (by rw [hrl]; exact hO)
        have HI9 := Lib.hid hI9
        clear hO hI9 hR hAr
        go_wp2
        go_ret2
        exact .inl ⟨HC.out, t, _, by simpa using HU.out, rfl, HI9.out, HB2.out.trans (HB.out.mono HB2.out.size)⟩
  · have HC := Lib.hid hc
    have hbad' : id < 0 ∨ 0 ≤ id ∧ (L.length : Int) ≤ id := by omega
    clear hG hc hbad
    rcases hbad' with hbad | ⟨hb0, hbad⟩
    · go_enter Try.func22, Try.ntmps22
      go_wp2
      go_ret2
      exact .inr ⟨HC.out, rfl, Below.refl _ _⟩
    · have hi2 : decide (id < 0) = false := decide_eq_false (by omega)
      have hi3 : decide ((L.length : Int) ≤ id) = true := decide_eq_true (by omega)
      go_enter Try.func22, Try.ntmps22
      go_wp2
      go_ret2
      exact .inr ⟨HC.out, rfl, Below.refl _ _⟩

end Go.Proofs.Ytkejacodofmlhaa
