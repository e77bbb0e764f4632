/- Contracts of the matcher's methods bind and extend. -/
import Derived.Test.YtjebfmcgenhchaaMtP
import Derived.Deep.RegionHeld3
import Derived.Deep.CutRange
import Derived.StillTailTactics
namespace Go.Proofs.Ytjebfmcgenhchaa
set_option linter.unusedVariables false
set_option linter.unusedSimpArgs false
open Go.RowKit Go.Maps

/-- What extending a matcher answers: all but the map stays as it was. -/
def ExtPost (n₀ B : Nat) (r : Option Sb) (w : World) (e : Ending) (w' : World) : Prop :=
  w.grownBy w' (some B) ∧ ((∃ M', r = some M' ∧ e = .returned (.bool true) ∧ TabR n₀ w' B M') ∨ (r = none ∧ e = .returned (.bool false)))
theorem grown_of_below {w w' : World} {row : Option Nat} (h : Below w.heap.size w w') : w.grownBy w' row := ⟨h.os, h.tape, h.output, h.size, fun k hk _ => h.block k hk⟩
theorem grown_trans {a b c : World} {row : Option Nat} (h : a.grownBy b row) (k : b.grownBy c row) : a.grownBy c row := ⟨k.os.trans h.os, k.tape.trans h.tape, k.output.trans h.output, Nat.le_trans h.size k.size, fun q hq hr => (k.block q (Nat.lt_of_lt_of_le hq h.size) hr).trans (h.block q hq hr)⟩
theorem grown_below {n B : Nat} {a b : World} (h : a.grownBy b (some B)) (hn : n ≤ B) (ha : n ≤ a.heap.size) : Below n a b := ⟨h.os, h.tape, h.output, h.size, fun q hq => h.block q (by omega) (by simp; omega)⟩
theorem grown_cell {B b o : Nat} {w w' : World} (h : w.grownBy w' (some B)) (hb : b < w.heap.size) (hne : b ≠ B) : w'.cell? ⟨b, o, none⟩ = w.cell? ⟨b, o, none⟩ := World.cell?_of_block (a := ⟨b, o, none⟩) (h.block b hb (by simpa using hne))
theorem tab_lt {n₀ B : Nat} {W : World} {M : Sb} (h : TabR n₀ W B M) : B < W.heap.size := by
  obtain ⟨D, h1, _⟩ := h
  exact h1.lt

set_option maxRecDepth 100000 in
set_option maxHeartbeats 1000000 in
theorem mbind_any (M : Sb) (hl : M.length ≤ 1000000) (hM : ∀ q ∈ M, q.2.size ≤ 1000000) (v : Int) (h1 : -9223372036854775808 ≤ v) (h2 : v ≤ 9223372036854775807) (t : T) (n₀ B : Nat) (a : Option Addr) (c : Nat) (w : World) (hn : n₀ ≤ B) (hT : TabR n₀ w B M) (htw : (Lit.int .i64 t.head).wf = true) (hA : IsArgs n₀ w t.args a c) :
    Calls Try.prog 92 #[.map (some B), .int .i64 v, tm t.head a t.args.length c] w (ExtPost n₀ B (if bnd M v then (if sameB (ofS M v) t then some M else none) else some (M ++ [(v, t)])) w) := by
  generalize hr : (if bnd M v then (if sameB (ofS M v) t then some M else none) else some (M ++ [(v, t)])) = r
  have HR := Lib.hid hr
  clear hr
  have hlt := tab_lt hT
  have hos := ofS_size (n := 1000000) (by omega) hM v
  have hkey := keyOf_int_mk (P := Try.prog) (k := 3) Try.underlying3 (WalkArith.wf_i64 ⟨h1, h2⟩)
  have HT := Lib.hid hT
  obtain ⟨D, hD, hno, hyes⟩ := hT
  cases hb : bnd M v
  · have hh := hno v hb
    have HB := Lib.hid hb
    have hD1 := hD.alloc (tmCells t.head a t.args.length c)
    have hD2 := hD1.alloc (tmCells 0 none 0 0)
    have HD := Lib.hid hD
    have HNO := Lib.hid hno
    have HY := Lib.hid hyes
    have HA := Lib.hid hA
    clear hno hyes hb hM hD hA
    go_enter Try.func92, Try.ntmps92
    go_wp2_with (first | (at_lookup; refine wpList_look_miss (by rfl) _ _ 80 (by rfl) 3 24 keyInt Try.underlying80 (zeroTerm _) B M.length D (by rfl) hD1 _ _ (by rfl) hkey hh ?_) | (at_mapUpdate; refine wpList_mapUpdate_own _ (by rfl) _ _ _ 80 (by rfl) 3 24 keyInt Try.underlying80 heldR B M.length D (by rfl) hD2 (by unfold maxLen; omega) _ _ (.int .i64 v) (by rfl) (by rfl) hkey (.held (tm t.head a t.args.length c)) [] (by rfl) ?_; intro w1 hown1 hgrow1) | go_in)
    go_ret
    have hg0 : w.grownBy w1 (some B) := grown_trans (grown_of_below (((Below.refl _ w).alloc (Nat.le_refl _) _).alloc (by simp) _)) hgrow1
    have hb0 := grown_below hg0 hn (by omega)
    refine ⟨hg0, .inl ⟨M ++ [(v, t)], by rw [← HR.out, HB.out]; rfl, rfl, ?_⟩⟩
    exact tab_step HB.out HD.out HNO.out HY.out hown1 htw (HA.out.below hb0) hb0
  · obtain ⟨hh, hw, a', c', hat, hA'⟩ := hyes v hb
    have HB := Lib.hid hb
    generalize ofS M v = x at *
    have hD1 := hD.alloc (tmCells t.head a t.args.length c)
    have hB2 : Below w.heap.size w ((w.alloc (tmCells t.head a t.args.length c)).alloc (tmCells x.head a' x.args.length c')) := ((Below.refl _ w).alloc (Nat.le_refl _) _).alloc (by simp) _
    have CC := Lib.hid (same_any x t hos n₀ a' c' a c ((w.alloc (tmCells t.head a t.args.length c)).alloc (tmCells x.head a' x.args.length c')) (by simp; omega) hw htw (hA'.below (hB2.mono (by omega))) (hA.below (hB2.mono (by omega))))
    have HB2 := Lib.hid hB2
    clear hno hyes hb hM hA hA' hB2 hw
    go_enter Try.func92, Try.ntmps92
    go_wp2_with (first | (at_lookup; refine wpList_look_hit (by rfl) _ _ 80 (by rfl) 3 24 keyInt Try.underlying80 (zeroTerm _) B M.length D (by rfl) hD1 _ _ (by rfl) hkey hh (tm x.head a' x.args.length c') hat ?_) | (go_at_call 41; refine CC.out.mono ?_; rintro e w3 ⟨rfl, hb3⟩) | go_in)
    go_ret
    have hbb : Below w.heap.size w w3 := HB2.out.trans (hb3.mono HB2.out.size)
    refine ⟨grown_of_below hbb, ?_⟩
    have hr := HR.out
    rw [HB.out, if_pos rfl] at hr
    cases hs : sameB x t
    · rw [hs] at hr
      exact .inr ⟨hr.symm, rfl⟩
    · rw [hs] at hr
      exact .inl ⟨M, hr.symm, rfl, HT.out.below (by omega) hbb⟩

mutual
theorem T.ext_len (p t : T) (M M' : Sb) (h : p.ext t M = some M') : M'.length ≤ M.length + p.size ∧ ∀ q ∈ M', q ∈ M ∨ q.2.size ≤ t.size := by
  match p with
  | .node hd ps =>
    rw [T.ext] at h
    split at h
    · split at h
      · split at h
        · cases h; exact ⟨by omega, fun q hq => .inl hq⟩
        · cases h
      · cases h
        refine ⟨by simp [T.size], fun q hq => ?_⟩
        rcases List.mem_append.1 hq with hq | hq
        · exact .inl hq
        · obtain rfl := List.mem_singleton.1 hq
          exact .inr (Nat.le_refl _)
    · split at h
      · obtain ⟨h1, h2⟩ := T.exts_len ps t.args M M' h
        refine ⟨by simp only [T.size]; omega, fun q hq => ?_⟩
        rcases h2 q hq with h3 | h3
        · exact .inl h3
        · exact .inr (by have := T.size_eq t; omega)
      · cases h
theorem T.exts_len (ps ts : List T) (M M' : Sb) (h : T.exts ps ts M = some M') : M'.length ≤ M.length + T.sizes ps ∧ ∀ q ∈ M', q ∈ M ∨ q.2.size ≤ T.sizes ts := by
  match ps, ts with
  | [], _ => rw [T.exts] at h; cases h; exact ⟨by omega, fun q hq => .inl hq⟩
  | _ :: _, [] => rw [T.exts] at h; cases h; exact ⟨by omega, fun q hq => .inl hq⟩
  | p :: ps, t :: ts =>
    rw [T.exts] at h
    split at h
    · rename_i M1 h1
      obtain ⟨a1, a2⟩ := T.ext_len p t M M1 h1
      obtain ⟨b1, b2⟩ := T.exts_len ps ts M1 M' h
      refine ⟨by simp only [T.sizes]; omega, fun q hq => ?_⟩
      rcases b2 q hq with h3 | h3
      · rcases a2 q h3 with h4 | h4
        · exact .inl h4
        · exact .inr (by simp only [T.sizes]; omega)
      · exact .inr (by simp only [T.sizes]; omega)
    · cases h
end
theorem sizes_take_lt {ps : List T} {k : Nat} {p : T} (h : ps[k]? = some p) : T.sizes (ps.take k) + p.size ≤ T.sizes ps := by
  have h3 := T.sizes_append (ps.take k) (ps.drop k)
  rw [List.take_append_drop] at h3
  obtain ⟨hk, e⟩ := List.getElem?_eq_some_iff.1 h
  have h4 : ps.drop k = p :: ps.drop (k + 1) := by rw [List.drop_eq_getElem_cons hk, e]
  rw [h4, T.sizes] at h3
  omega

def ExI (n₀ B : Nat) (ps ts : List T) (M : Sb) (wL : World) (i : Value) (wr : World) : Prop :=
  ∃ (k : Nat) (M1 : Sb), k ≤ ps.length ∧ i = .int .i64 k ∧ T.exts (ps.take k) (ts.take k) M = some M1 ∧ TabR n₀ wr B M1 ∧ wL.grownBy wr (some B)

set_option maxRecDepth 100000 in
set_option maxHeartbeats 4000000 in
theorem extend_any : ∀ (N : Nat) (p : T), p.size ≤ N → p.size ≤ 1000000 → ∀ (t : T), t.size ≤ 1000000 → ∀ (M : Sb), M.length + p.size ≤ 1000000 → (∀ q ∈ M, q.2.size ≤ 1000000) → ∀ (n₀ B : Nat) (a : Option Addr) (c : Nat) (a' : Option Addr) (c' : Nat) (w : World), n₀ ≤ B → TabR n₀ w B M → (Lit.int .i64 p.head).wf = true → (Lit.int .i64 t.head).wf = true → IsArgs n₀ w p.args a c → IsArgs n₀ w t.args a' c' →
    Calls Try.prog 61 #[.map (some B), tm p.head a p.args.length c, tm t.head a' t.args.length c'] w (ExtPost n₀ B (p.ext t M) w) := by
  intro N
  induction N with
  | zero => intro p hp; have := T.size_pos p; omega
  | succ N ih =>
    intro p hp hbig t htb M hML hMS n₀ B a c a' c' w hn hT hpw htw hA hA'
    have IH := Lib.hid ih
    clear ih
    have hlt := tab_lt hT
    have hw := wf_low hpw
    generalize hr : p.ext t M = r
    rw [T.ext_eq] at hr
    have HR := Lib.hid hr
    clear hr
    have hlc : p.args.length ≤ c ∧ c ≤ maxLen := ⟨hA.1, hA.2.1⟩
    have hlc' : t.args.length ≤ c' ∧ c' ≤ maxLen := ⟨hA'.1, hA'.2.1⟩
    unfold maxLen at hlc hlc'
    obtain ⟨hl1, hl2⟩ := hlc
    obtain ⟨hl3, hl4⟩ := hlc'
    have hB2 : Below w.heap.size w ((w.alloc (tmCells p.head a p.args.length c)).alloc (tmCells t.head a' t.args.length c')) := ((Below.refl _ w).alloc (Nat.le_refl _) _).alloc (by simp) _
    have HT2 := Lib.hid (hT.below (by omega) hB2)
    have HA := Lib.hid (hA.below (hB2.mono (by omega)))
    have HA' := Lib.hid (hA'.below (hB2.mono (by omega)))
    have HB2 := Lib.hid hB2
    have HTW := Lib.hid htw
    have HMS := Lib.hid hMS
    clear hT hA hA' hB2 hpw htw hMS
    by_cases hneg : p.head < 0
    · have CB := Lib.hid (mbind_any M (by omega) HMS.out (-1 - p.head) (by omega) (by omega) t n₀ B a' c' _ hn HT2.out HTW.out HA'.out)
      go_enter Try.func61, Try.ntmps61
      go_wp2_with fail
      refine CB.out.mono ?_
      rintro e w3 ⟨hg3, h3⟩
      have hr := HR.out
      rw [if_pos hneg] at hr
      rw [hr] at h3
      have HG := Lib.hid (grown_trans (grown_of_below HB2.out) hg3)
      clear hg3 hr CB HR
      rcases h3 with ⟨M', rfl, rfl, hT'⟩ | ⟨rfl, rfl⟩
      · have HT' := Lib.hid hT'
        clear hT'
        go_wp2
        go_ret
        exact ⟨HG.out, .inl ⟨M', rfl, rfl, HT'.out⟩⟩
      · go_wp2
        go_ret
        exact ⟨HG.out, .inr ⟨rfl, rfl⟩⟩
    · have hr := HR.out
      rw [if_neg hneg] at hr
      have HR2 := Lib.hid hr
      clear hr HR
      by_cases hh : p.head = t.head
      case neg =>
        have hne : (p.head == t.head) = false := by simpa using hh
        have hr : r = none := by rw [← HR2.out, if_neg (fun h => hh h.1)]
        subst hr
        go_enter Try.func61, Try.ntmps61
        go_wp2
        go_ret
        exact ⟨grown_of_below HB2.out, .inr ⟨rfl, rfl⟩⟩
      have HH := Lib.hid hh
      rw [hh] at HB2 HT2 HA HA' hneg ⊢
      clear hh
      by_cases hl : p.args.length = t.args.length
      case neg =>
        have hne : ((p.args.length : Int) == (t.args.length : Int)) = false := by rw [beq_eq_false_iff_ne]; intro e; exact hl (by omega)
        have hr : r = none := by rw [← HR2.out, if_neg (fun h => hl h.2)]
        subst hr
        clear hl
        go_enter Try.func61, Try.ntmps61
        go_wp2
        go_ret
        exact ⟨grown_of_below HB2.out, .inr ⟨rfl, rfl⟩⟩
      have hr : T.exts p.args t.args M = r := by rw [← HR2.out, if_pos ⟨HH.out, hl⟩]
      have HR3 := Lib.hid hr
      have HL := Lib.hid hl
      rw [hl] at HB2 HT2 HA HA' hl1 ⊢
      clear hr hl HR2
      go_enter Try.func61, Try.ntmps61
      go_wp2
      have hsz : ((w.alloc (.cells #[.int .i64 t.head, .slice a t.args.length c] 24)).alloc (.cells #[.int .i64 t.head, .slice a' t.args.length c'] 24)).heap.size = w.heap.size + 1 + 1 := by simp
      have ht1 : ((w.alloc (.cells #[.int .i64 t.head, .slice a t.args.length c] 24)).alloc (.cells #[.int .i64 t.head, .slice a' t.args.length c'] 24)).cell? ⟨w.heap.size + 1, 1, none⟩ = some (.slice a' t.args.length c') := by simp [go_sem]
      have HT1 := Lib.hid ht1
      clear ht1
      generalize (w.alloc (.cells #[.int .i64 t.head, .slice a t.args.length c] 24)).alloc (.cells #[.int .i64 t.head, .slice a' t.args.length c'] 24) = wL at HT2 HA HA' HB2 HT1 hsz ⊢
      go_loopw [7, 8, 35] (fun _ _ i wr => ExI n₀ B p.args t.args M wL i wr) (fun _ _ i _ => t.args.length - (intOf i).toNat)
      case atStart => exact ⟨0, M, Nat.zero_le _, rfl, by simp [T.exts], HT2.out, grown_of_below (Below.refl _ _)⟩
      case round =>
        obtain ⟨k, M1, hk, rfl, hM1, hT, hG⟩ := hrel
        have HM1 := Lib.hid hM1
        have HT := Lib.hid hT
        have HG := Lib.hid hG
        have hbz := hG.size
        clear hM1 hT hG
        by_cases hlt2 : k < t.args.length
        · have hk0 : (0 : Int) ≤ (k : Int) := Int.natCast_nonneg _
          have hk2 : (k : Int) < (t.args.length : Int) := by omega
          have hbel : Below n₀ wL wr := grown_below HG.out hn (by omega)
          obtain ⟨b, o, p1, a1, c1, rfl, hbn, hp1, hpw1, hc1, hc2, hA1⟩ := (HA.out.below hbel).elem (i := k) (by rw [HL.out]; exact hlt2)
          obtain ⟨b2, o2, t1, a2, c2, rfl, hbn2, ht1, htw1, hd1, hd2, hA2⟩ := (HA'.out.below hbel).elem (i := k) hlt2
          have HP1 := Lib.hid hp1
          have HT1' := Lib.hid ht1
          have hsz1 := sizes_take_lt hp1
          have hszt := sizes_take_lt ht1
          have hpe := T.size_eq p
          have hte := T.size_eq t
          have hln := T.exts_len _ _ _ _ HM1.out
          have hd0 : wr.cell? ⟨w.heap.size + 1, 1, none⟩ = some (.slice (some ⟨b2, o2, none⟩) t.args.length c') := (grown_cell HG.out (by omega) (by omega)).trans HT1.out
          have CALL := Lib.hid (show ∀ W, Below wr.heap.size wr W → Calls Try.prog 61 #[.map (some B), tm p1.head a1 p1.args.length c1, tm t1.head a2 t1.args.length c2] W (ExtPost n₀ B (p1.ext t1 M1) W) from fun W hW =>
            IH.out p1 (by omega) (by omega) t1 (by omega) M1 (by omega) (fun q hq => by
              rcases hln.2 q hq with h | h
              · exact HMS.out q h
              · have h3 := T.sizes_append (t.args.take k) (t.args.drop k)
                rw [List.take_append_drop] at h3
                omega) n₀ B a1 c1 a2 c2 W hn (HT.out.below (by omega) hW) hpw1 htw1 (hA1.below (hW.mono (by omega))) (hA2.below (hW.mono (by omega))))
          have hbw2 : b2 < wr.heap.size := by omega
          clear hp1 ht1 hsz1 hszt hpe hte hln hA1 hA2 hpw1 htw1 hbel
          go_wp2_with fail
          have hB1 : Below wr.heap.size wr (wr.alloc (.cells #[.int .i64 p1.head, .slice a1 p1.args.length c1] 24)) := (Below.refl _ _).alloc (Nat.le_refl _) _
          have HB1 := Lib.hid hB1
          have e0 := (hB1.cell (p := ⟨w.heap.size + 1, 1, none⟩) (by simp; omega)).trans hd0
          have e1 := (hB1.cell (p := ⟨b2, o2 + k * 2, none⟩) (by simp; omega)).trans hd1
          have e2 := (hB1.cell (p := ⟨b2, o2 + k * 2 + 1, none⟩) (by simp; omega)).trans hd2
          have v0 : (wr.alloc (.cells #[.int .i64 p1.head, .slice a1 p1.args.length c1] 24)).cell? ⟨wr.heap.size, 0, none⟩ = some (.int .i64 p1.head) := by simp [go_sem]
          have v1 : (wr.alloc (.cells #[.int .i64 p1.head, .slice a1 p1.args.length c1] 24)).cell? ⟨wr.heap.size, 1, none⟩ = some (.slice a1 p1.args.length c1) := by simp [go_sem]
          clear hB1 hd0 hd1 hd2 hc1 hc2
          generalize wr.alloc (.cells #[.int .i64 p1.head, .slice a1 p1.args.length c1] 24) = wv at HB1 e0 e1 e2 v0 v1 ⊢
          generalize wr.heap.size = bv at v0 v1 ⊢
          go_still_tail 7, (by kernel_rfl)
          change wpList _ _ _ _ _ wv.drew
          go_wp2_with fail
          refine (CALL.out wv.drew HB1.out.drew).mono ?_
          rintro e w3 ⟨hg3, h3⟩
          have HG3 := Lib.hid (grown_trans HG.out (grown_trans (grown_of_below HB1.out.drew) hg3))
          have hst := T.exts_take p.args t.args k p1 t1 M HP1.out HT1'.out
          rw [HM1.out] at hst
          have HST := Lib.hid hst
          clear hst hg3 CALL e0 e1 e2 v0 v1
          rcases h3 with ⟨M2, hM2, rfl, hT2⟩ | ⟨hM2, rfl⟩
          · have HM2 := Lib.hid hM2
            have HTT := Lib.hid hT2
            clear hM2 hT2
            go_wp2
            go_roundw
            case rel => exact ⟨k + 1, M2, by have := HL.out; omega, by go_num, HST.out.trans HM2.out, HTT.out, HG3.out⟩
            case measure => simp [intOf]; omega
          · have hr := T.exts_none p.args t.args (k + 1) M (HST.out.trans hM2)
            rw [HR3.out] at hr
            subst hr
            clear hM2 HR3
            go_wp2
            go_ret
            exact ⟨grown_trans (grown_of_below HB2.out) HG3.out, .inr ⟨rfl, rfl⟩⟩
        · obtain rfl : k = t.args.length := by have := HL.out; omega
          have hM1 := HM1.out
          rw [List.take_length, show p.args.take t.args.length = p.args from by rw [← HL.out, List.take_length], HR3.out] at hM1
          subst hM1
          clear HM1 HR3
          go_wp2
          go_ret
          exact ⟨grown_trans (grown_of_below HB2.out) HG.out, .inl ⟨M1, rfl, rfl, HT.out⟩⟩

end Go.Proofs.Ytjebfmcgenhchaa
