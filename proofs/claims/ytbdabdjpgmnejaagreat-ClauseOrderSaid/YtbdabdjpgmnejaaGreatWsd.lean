/- Contracts of clause's withSides and Norm. -/
import Derived.Test.YtbdabdjpgmnejaaGreatSdc
import Derived.Test.YtbdabdjpgmnejaaGreatQDl
import Derived.Deep.RegionLaw
import Derived.Deep.RegionHeld3
import Derived.BigRegion
namespace Go.Proofs.YtbdabdjpgmnejaaGreat
set_option linter.unusedVariables false
set_option linter.unusedSimpArgs false
open Go.RowKit

/-- A clause with other sides. -/
def withT : List Lt3 → List T → List Lt3
  | x :: c, l :: r :: ts => ⟨x.neg, l, r⟩ :: withT c ts
  | _, _ => []
theorem withT_sides : ∀ (c : List Lt3) (ts : List T), ts.length = 2 * c.length → sidesC (withT c ts) = ts ∧ (withT c ts).map Lt3.neg = c.map Lt3.neg
  | [], [], _ => ⟨rfl, rfl⟩
  | [], _ :: _, h => by simp at h
  | _ :: _, [], h => by simp at h
  | _ :: c, [_], h => by simp at h; omega
  | x :: c, l :: r :: ts, h => by
    obtain ⟨h1, h2⟩ := withT_sides c ts (by simp at h; omega)
    refine ⟨?_, ?_⟩
    · show [l, r] ++ sidesC (withT c ts) = _
      rw [h1]; rfl
    · show x.neg :: (withT c ts).map Lt3.neg = _
      rw [h2]; rfl
/-- Four cells of two terms. -/
def At4 (W : World) (b o : Nat) (x : LV) : Prop :=
  W.cell? ⟨b, o, none⟩ = some (.int .i64 x.l.head) ∧ W.cell? ⟨b, o + 1, none⟩ = some (.slice x.pa x.l.args.length x.ca) ∧ W.cell? ⟨b, o + 2, none⟩ = some (.int .i64 x.r.head) ∧ W.cell? ⟨b, o + 3, none⟩ = some (.slice x.pb x.r.args.length x.cb)
theorem rowQ {n : Nat} {w : World} : ∀ (P : List LV) (ts : List T) (b o : Nat), ts.length = 2 * P.length → IsRow n w ts b o → ∃ Q : List LV, Q.length = P.length ∧ t3s Q = withT (t3s P) ts ∧ ∀ (k : Nat) (x : LV), Q[k]? = some x → At4 w b (o + k * 4) x ∧ IsLv n w x ∧ ∀ y, P[k]? = some y → x.n = y.n
  | [], [], b, o, _, _ => ⟨[], rfl, rfl, by simp⟩
  | [], _ :: _, b, o, h, _ => by simp at h
  | _ :: _, [], b, o, h, _ => by simp at h
  | _ :: c, [_], b, o, h, _ => by simp at h; omega
  | y :: P, l :: r :: ts, b, o, h, hr => by
    simp only [IsRow] at hr
    obtain ⟨hl, hr', hrow⟩ := hr
    obtain ⟨wl, p1, a, c, p2, hA⟩ := isT_iff.1 hl
    obtain ⟨wr, q1, a', c', q2, hB⟩ := isT_iff.1 hr'
    obtain ⟨Q, h1, h2, h3⟩ := rowQ P ts b (o + 2 + 2) (by simp at h; omega) hrow
    refine ⟨⟨y.n, l, r, a, c, a', c'⟩ :: Q, by simp [h1], ?_, fun k x hx => ?_⟩
    · show _ :: t3s Q = _
      rw [h2]; rfl
    · cases k with
      | zero =>
        simp at hx; subst hx
        exact ⟨⟨by simpa using p1, by simpa using p2, by simpa using q1, by simpa using q2⟩, ⟨wl, wr, hA, hB⟩, fun z hz => by simp at hz; subst hz; rfl⟩
      | succ k =>
        obtain ⟨g1, g2, g3⟩ := h3 k x (by simpa using hx)
        rw [show o + (k + 1) * 4 = o + 2 + 2 + k * 4 from by omega]
        exact ⟨g1, g2, fun z hz => g3 z (by simpa using hz)⟩
theorem lcells_set {P : List LV} : ∀ {k : Nat} {x y : LV}, P[k]? = some y → y.n = x.n → ((((lcells P).set (k * 5 + 1) (.int .i64 x.l.head)).set (k * 5 + 2) (.slice x.pa x.l.args.length x.ca)).set (k * 5 + 3) (.int .i64 x.r.head)).set (k * 5 + 4) (.slice x.pb x.r.args.length x.cb) = lcells (P.set k x) := by
  induction P with
  | nil => intro k x y h; simp at h
  | cons z P ih =>
    intro k x y h hn
    cases k with
    | zero =>
      simp at h; subst h
      show _ = x.cells ++ lcells P
      show ((((z.cells ++ lcells P).set _ _).set _ _).set _ _).set _ _ = _
      simp [hn]
    | succ k =>
      have := ih (k := k) (x := x) (y := y) (by simpa using h) hn
      show ((((z.cells ++ lcells P).set _ _).set _ _).set _ _).set _ _ = z.cells ++ lcells (P.set k x)
      rw [← this]
      have e : ∀ (L : List Value) (i : Nat) (u : Value), (z.cells ++ L).set ((k + 1) * 5 + i) u = z.cells ++ L.set (k * 5 + i) u := fun L i u => by
        rw [List.set_append_right _ _ (by simp; omega)]
        congr 2
        simp; omega
      rw [e, e, e, e]

def WsI (P Q : List LV) (n₁ : Nat) (v : Value) (w : World) (i : Value) (wr : World) : Prop :=
  ∃ k : Nat, k ≤ P.length ∧ i = .int .i64 k ∧ OL (· < n₁) n₁ v (Q.take k ++ P.drop k) wr ∧ Below w.heap.size w wr
def WsPost (P : List LV) (ts : List T) (w : World) (e : Ending) (w' : World) : Prop :=
  ∃ (Q : List LV) (v : Value), e = .returned v ∧ t3s Q = withT (t3s P) ts ∧ OL (· < w.heap.size) w.heap.size v Q w' ∧ Below w.heap.size w w'

set_option maxRecDepth 100000 in
set_option maxHeartbeats 4000000 in
theorem withSides_any (P : List LV) (hl : P.length ≤ 1000000) (ts : List T) (ht : ts.length = 2 * P.length) (n₀ : Nat) (a : Option Addr) (c : Nat) (a' : Option Addr) (c' : Nat) (w : World) (hn : n₀ ≤ w.heap.size) (hP : IsCl n₀ w P a c) (hT : IsArgs n₀ w ts a' c') :
    Calls Tryz.prog 47 #[.slice a P.length c, .slice a' ts.length c'] w (WsPost P ts w) := by
  obtain ⟨Q, hq1, hq2, hq3⟩ : ∃ Q : List LV, Q.length = P.length ∧ t3s Q = withT (t3s P) ts ∧ ∀ (k : Nat) (x : LV), Q[k]? = some x → ∃ b o, a' = some ⟨b, o, none⟩ ∧ b < w.heap.size ∧ At4 w b (o + k * 4) x ∧ IsLv w.heap.size w x ∧ ∀ y, P[k]? = some y → x.n = y.n := by
    rcases hT.2.2 with h | ⟨b, o, h1, h2, h3⟩
    · subst h
      have : P = [] := List.eq_nil_of_length_eq_zero (by simp at ht; omega)
      subst this
      exact ⟨[], rfl, rfl, by simp⟩
    · obtain ⟨Q, q1, q2, q3⟩ := rowQ P ts b o ht h3
      exact ⟨Q, q1, q2, fun k x hx => ⟨b, o, h1, by omega, (q3 k x hx).1, (q3 k x hx).2.1.mono hn, (q3 k x hx).2.2⟩⟩
  have CL := Lib.hid (cloneL_any P hl n₀ a c w hn hP)
  have HQ := Lib.hid hq3
  have HQ1 := Lib.hid hq1
  have HQ2 := Lib.hid hq2
  have HT := Lib.hid ht
  have htl : ts.length ≤ c' ∧ c' ≤ maxLen := ⟨hT.1, hT.2.1⟩
  unfold maxLen at htl
  obtain ⟨ht1, ht2⟩ := htl
  clear hP hT hq1 hq2 hq3 ht
  go_enter Tryz.func47, Tryz.ntmps47
  go_wp2_with fail
  refine CL.out.mono ?_
  rintro e w2 ⟨v, rfl, hO, hb2⟩
  have HO0 := Lib.hid (show OL (· < w.heap.size) w.heap.size v P w2 from hO.kept (fun _ _ => rfl) (fun _ _ => rfl) (fun b hb => Nat.lt_of_lt_of_le hb hn))
  have HB2 := Lib.hid hb2
  obtain ⟨pv, cv, rfl, hcl⟩ := hO.args (fun b hb => by have : b < n₀ := hb; have := hb2.size; omega)
  have hpc : P.length ≤ cv ∧ cv ≤ maxLen := ⟨hcl.1, hcl.2.1⟩
  unfold maxLen at hpc
  obtain ⟨hp1, hp2⟩ := hpc
  clear hO hb2 hcl
  go_wp2
  go_loopw [11] (fun i wr => WsI P Q w.heap.size (.slice pv P.length cv) w i wr) (fun i _ => P.length - (intOf i).toNat)
  case atStart => exact ⟨0, Nat.zero_le _, rfl, by simpa using HO0.out, HB2.out⟩
  case round =>
    obtain ⟨k, hk, rfl, hO, hB⟩ := hrel
    have HO := Lib.hid hO
    have HB := Lib.hid hB
    have hbz := hB.size
    clear HO0 HB2
    by_cases hlt : k < P.length
    · have hQk : Q[k]? = some (Q[k]'(by rw [HQ1.out]; exact hlt)) := List.getElem?_eq_getElem _
      generalize Q[k]'(by rw [HQ1.out]; exact hlt) = x at hQk
      obtain ⟨b, o, rfl, hbn, ⟨t0, t1, t2, t3⟩, hxl, hxn⟩ := HQ.out k x hQk
      have hPk : P[k]? = some P[k] := List.getElem?_eq_getElem hlt
      have hlen : (Q.take k ++ P.drop k).length = P.length := by
        rw [List.length_append, List.length_take, List.length_drop, HQ1.out]; omega
      obtain ⟨g, rfl⟩ : ∃ g, pv = some ⟨g, 0, none⟩ := by
        rcases hO.1.2 with ⟨h, h0⟩ | ⟨g, cap, cur, h, _⟩
        · omega
        · simp only [Value.slice.injEq] at h
          exact ⟨g, h.1⟩
      have hgw : w.heap.size ≤ g ∧ g < wr.heap.size := hO.block rfl
      have hown := hO.1
      rw [hlen] at hown
      have hbg : b ≠ g := by omega
      have hbw : b < wr.heap.size := by omega
      have r0 := (hB.cell (p := ⟨b, o + k * 4, none⟩) hbn).trans t0
      have r1 := (hB.cell (p := ⟨b, o + k * 4 + 1, none⟩) hbn).trans t1
      have r2 := (hB.cell (p := ⟨b, o + k * 4 + 2, none⟩) hbn).trans t2
      have r3 := (hB.cell (p := ⟨b, o + k * 4 + 3, none⟩) hbn).trans t3
      have e1 : o + 2 * k * 2 = o + k * 4 := by omega
      have e2 : o + (2 * k + 1) * 2 = o + k * 4 + 2 := by omega
      have q0 : wr.cell? ⟨b, o + 2 * k * 2, none⟩ = some (.int .i64 x.l.head) := by rw [e1]; exact r0
      have q1 : wr.cell? ⟨b, o + 2 * k * 2 + 1, none⟩ = some (.slice x.pa x.l.args.length x.ca) := by rw [e1]; exact r1
      have q2 : wr.cell? ⟨b, o + (2 * k + 1) * 2, none⟩ = some (.int .i64 x.r.head) := by rw [e2]; exact r2
      have q3 : wr.cell? ⟨b, o + (2 * k + 1) * 2 + 1, none⟩ = some (.slice x.pb x.r.args.length x.cb) := by rw [e2]; exact r3
      clear e1 e2 r0 r1 r2 r3 t0 t1 t2 t3
      obtain ⟨s1, s2, s3, s4⟩ : (∃ u, wr.cell? ⟨g, k * 5 + 1, none⟩ = some u) ∧ (∃ u, wr.cell? ⟨g, k * 5 + 2, none⟩ = some u) ∧ (∃ u, wr.cell? ⟨g, k * 5 + 3, none⟩ = some u) ∧ (∃ u, wr.cell? ⟨g, k * 5 + 4, none⟩ = some u) := by
        obtain ⟨pa2, ca2, e, hcl⟩ := hO.args (fun b hb => by have : b < w.heap.size := hb; omega)
        simp only [Value.slice.injEq] at e
        obtain ⟨rfl, _, _⟩ := e
        obtain ⟨b2, o2, y, e, _, _, ⟨_, y1, y2, y3, y4⟩, _⟩ := hcl.elem (i := k) (by rw [hlen]; exact hlt)
        simp only [Option.some.injEq, Addr.mk.injEq, and_true] at e
        obtain ⟨rfl, rfl⟩ := e
        rw [Nat.zero_add] at y1 y2 y3 y4
        exact ⟨⟨_, y1⟩, ⟨_, y2⟩, ⟨_, y3⟩, ⟨_, y4⟩⟩
      obtain ⟨s1, hs1⟩ := s1
      obtain ⟨s2, hs2⟩ := s2
      obtain ⟨s3, hs3⟩ := s3
      obtain ⟨s4, hs4⟩ := s4
      have fz : ∀ j, wr.frozen? ⟨g, j, none⟩ = false := fun j => hown.frozenAt j
      have hk0 : (0 : Int) ≤ (k : Int) := Int.natCast_nonneg _
      have hk1 : (k : Int) < (P.length : Int) := by omega
      have hk2 : 2 * (k : Int) + 1 < (ts.length : Int) := by have := HT.out; omega
      have hnew : OL (· < w.heap.size) w.heap.size (.slice (some ⟨g, 0, none⟩) P.length cv) (Q.take (k + 1) ++ P.drop (k + 1)) ((((wr.setCell ⟨g, k * 5 + 1, none⟩ (.int .i64 x.l.head)).setCell ⟨g, k * 5 + 1 + 1, none⟩ (.slice x.pa x.l.args.length x.ca)).setCell ⟨g, k * 5 + 3, none⟩ (.int .i64 x.r.head)).setCell ⟨g, k * 5 + 3 + 1, none⟩ (.slice x.pb x.r.args.length x.cb)).drew ∧
          Below w.heap.size wr ((((wr.setCell ⟨g, k * 5 + 1, none⟩ (.int .i64 x.l.head)).setCell ⟨g, k * 5 + 1 + 1, none⟩ (.slice x.pa x.l.args.length x.ca)).setCell ⟨g, k * 5 + 3, none⟩ (.int .i64 x.r.head)).setCell ⟨g, k * 5 + 3 + 1, none⟩ (.slice x.pb x.r.args.length x.cb)).drew := by
        have hbl : Below w.heap.size wr ((((wr.setCell ⟨g, k * 5 + 1, none⟩ (.int .i64 x.l.head)).setCell ⟨g, k * 5 + 1 + 1, none⟩ (.slice x.pa x.l.args.length x.ca)).setCell ⟨g, k * 5 + 3, none⟩ (.int .i64 x.r.head)).setCell ⟨g, k * 5 + 3 + 1, none⟩ (.slice x.pb x.r.args.length x.cb)).drew :=
          (((((Below.refl _ wr).setCell (p := ⟨g, _, none⟩) hgw.1 _).setCell (p := ⟨g, _, none⟩) hgw.1 _).setCell (p := ⟨g, _, none⟩) hgw.1 _).setCell (p := ⟨g, _, none⟩) hgw.1 _).drew
        have hPe : (Q.take k ++ P.drop k)[k]? = some P[k] := by
          rw [List.getElem?_append_right (by simp; omega), List.length_take, HQ1.out, Nat.min_eq_left (by omega), Nat.sub_self, List.getElem?_drop]
          exact hPk
        have hst : (Q.take k ++ P.drop k).set k x = Q.take (k + 1) ++ P.drop (k + 1) := by
          rw [List.set_append_right _ _ (by simp; omega), List.length_take, HQ1.out, Nat.min_eq_left (by omega), Nat.sub_self, List.drop_eq_getElem_cons hlt, List.set_cons_zero, List.take_add_one, hQk]
          simp
        have h4 := ((((hown.stored (k * 5 + 1) (.int .i64 x.l.head)).1.stored (k * 5 + 2) (.slice x.pa x.l.args.length x.ca)).1.stored (k * 5 + 3) (.int .i64 x.r.head)).1.stored (k * 5 + 4) (.slice x.pb x.r.args.length x.cb)).1
        rw [lcells_set hPe (hxn _ hPk).symm, hst] at h4
        refine ⟨⟨?_, fun y hy => ?_⟩, hbl⟩
        · have hlen2 : (Q.take (k + 1) ++ P.drop (k + 1)).length = P.length := by rw [← hst, List.length_set, hlen]
          rw [hlen2]
          exact h4
        · rcases List.mem_append.1 hy with hy | hy
          · have hy' : y ∈ Q.take k ∨ y = x := by
              rw [List.take_add_one, hQk] at hy
              simpa using hy
            rcases hy' with hy' | rfl
            · exact (hO.2 y (List.mem_append_left _ hy')).keep (fun b hb => hbl.block b hb) (fun _ x => x)
            · exact isLvp_lt.2 ((hxl.below hB).below hbl)
          · have hy' : y ∈ P.drop k := by rw [List.drop_eq_getElem_cons hlt]; exact List.mem_cons_of_mem _ hy
            exact (hO.2 y (List.mem_append_right _ hy')).keep (fun b hb => hbl.block b hb) (fun _ x => x)
      have HNEW := Lib.hid hnew
      clear hO hB hnew hQk hPk hlen hown hxl hxn
      go_wp2
      go_region
      go_wp2
      go_roundw
      case rel => exact ⟨k + 1, by omega, by go_num, HNEW.out.1, HB.out.trans HNEW.out.2⟩
      case measure => simp [intOf]; omega
    · obtain rfl : k = P.length := by omega
      have HR := Lib.hid (show OL (· < w.heap.size) w.heap.size (.slice pv P.length cv) Q wr from by
        have h := HO.out
        rwa [List.drop_of_length_le (Nat.le_refl _), List.append_nil, List.take_of_length_le (by rw [HQ1.out]; exact Nat.le_refl _)] at h)
      go_wp2
      go_ret
      exact ⟨Q, _, rfl, HQ2.out, HR.out, HB.out⟩

/-! ### Norm -/
set_option maxRecDepth 100000 in
set_option maxHeartbeats 4000000 in
theorem cNorm_any (P : List LV) (hl : P.length ≤ 1000000) (hs : T.sizes (sidesC (t3s P)) ≤ 100000) (n₀ : Nat) (a : Option Addr) (c : Nat) (w : World) (hn : n₀ ≤ w.heap.size) (hP : IsCl n₀ w P a c) :
    Calls Tryz.prog 15 #[.slice a P.length c] w (ClEPost (nmL (t3s P)) (nmE (t3s P)) w) := by
  have HP := Lib.hid (hP.mono hn)
  clear hP
  go_enter Tryz.func15, Tryz.ntmps15
  go_wp2_with fail
  refine (sides_any P hl w.heap.size a c w (Nat.le_refl _) HP.out).mono ?_
  rintro e w2 ⟨v, rfl, hO, hb2⟩
  obtain ⟨p, c2, rfl, hA⟩ := hO.args hb2.size
  have HB2 := Lib.hid hb2
  have CN := Lib.hid (norm_any (sidesC (t3s P)) hs w2.heap.size p c2 w2 (Nat.le_refl _) hA)
  clear hO hb2 hA
  go_wp2_with fail
  refine CN.out.mono ?_
  rintro e w3 ⟨hr, hb3⟩
  have HB3 := Lib.hid (HB2.out.trans (hb3.mono HB2.out.size))
  clear hb3 CN
  rcases hr with ⟨hbad, rfl⟩ | ⟨hbad, a3, c3, rfl, hA3⟩
  · have HE := Lib.hid (show nmL (t3s P) = [] ∧ nmE (t3s P) = 1 from ⟨by unfold nmL; rw [hbad]; rfl, by unfold nmE; rw [hbad]; rfl⟩)
    clear hbad
    go_wp2
    refine bodyPost_ret (v := .tuple #[.slice none 0 0, .int .i64 1]) (by simp [results, Tryz.results15, go_sem]) rfl ?_
    exact ⟨[], none, 0, HE.out.1.symm, by rw [HE.out.2]; rfl, IsCl.nil _ _ _ (by simp [maxLen]), HB3.out⟩
  · have hlen : (T.nrms (sidesC (t3s P)) []).1.length = 2 * P.length := by rw [T.nrms_length, sidesC_length]; simp
    have CW := Lib.hid (withSides_any P hl (T.nrms (sidesC (t3s P)) []).1 hlen w3.heap.size a c a3 c3 w3 (Nat.le_refl _) ((HP.out.below HB3.out).mono HB3.out.size) hA3)
    have HE := Lib.hid (show nmE (t3s P) = 0 ∧ withT (t3s P) (T.nrms (sidesC (t3s P)) []).1 = nmL (t3s P) from by
      obtain ⟨h1, h2⟩ := withT_sides (t3s P) (T.nrms (sidesC (t3s P)) []).1 (by rw [hlen]; simp)
      exact ⟨by unfold nmE; rw [hbad]; rfl, lt3s_ext (by rw [h2, nm_negs _ hbad]) (by rw [h1, nm_sides hbad])⟩)
    clear hbad hA3 hlen
    go_wp2_with fail
    refine CW.out.mono ?_
    rintro e w4 ⟨Q, v, rfl, hQ, hO4, hb4⟩
    obtain ⟨p4, c4, rfl, hcl⟩ := hO4.args (fun b hb => Nat.lt_of_lt_of_le hb hb4.size)
    have HQ := Lib.hid (hQ.trans HE.out.2)
    have HCL := Lib.hid hcl
    have HB4 := Lib.hid (HB3.out.trans (hb4.mono HB3.out.size))
    clear hQ hO4 hb4 hcl CW
    go_wp2
    refine bodyPost_ret (v := .tuple #[.slice p4 Q.length c4, .int .i64 0]) (by simp [results, Tryz.results15, go_sem]) rfl ?_
    exact ⟨Q, p4, c4, HQ.out, by rw [HE.out.1], HCL.out, HB4.out⟩

end Go.Proofs.YtbdabdjpgmnejaaGreat
