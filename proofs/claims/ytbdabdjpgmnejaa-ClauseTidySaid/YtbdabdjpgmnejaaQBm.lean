/- QBm: joined of Sdc, Wsd, Tau, Apc. -/
import Derived.Test.YtbdabdjpgmnejaaQBh
import Derived.Test.YtbdabdjpgmnejaaQBj
import Derived.Test.YtbdabdjpgmnejaaQBk
import Derived.Test.YtbdabdjpgmnejaaQBg
import Derived.Test.YtbdabdjpgmnejaaQBl
import Derived.Laws.MakeOwn
import Derived.Deep.RegionLaw
import Derived.Deep.RegionHeld3
import Derived.BigRegion
import Derived.Test.YtbdabdjpgmnejaaQBi
import Derived.Test.YtbdabdjpgmnejaaQBc
import Derived.Test.YtbdabdjpgmnejaaQBe
import Derived.Test.YtbdabdjpgmnejaaQBd
import Derived.Test.YtbdabdjpgmnejaaQBf
import Derived.Test.YtbdabdjpgmnejaaQBa
import Derived.Shelf.Abstract
/- Contracts of clause's sides, Vars, Check. -/
namespace Go.Proofs.Ytbdabdjpgmnejaa
set_option linter.unusedVariables false
set_option linter.unusedSimpArgs false
open Go.RowKit
/-! ### sides -/
def SdPost (P : List LV) (w : World) (e : Ending) (w' : World) : Prop := ∃ v, e = .returned v ∧ OA w.heap.size v (sidesC (t3s P)) w' ∧ Below w.heap.size w w'
set_option maxRecDepth 100000 in
set_option maxHeartbeats 4000000 in
theorem sides_any (P : List LV) (hl : P.length ≤ 1000000) (n₀ : Nat) (a : Option Addr) (c : Nat) (w : World) (hn : n₀ ≤ w.heap.size) (hP : IsCl n₀ w P a c) :
    Calls Try.prog 37 #[.slice a P.length c] w (SdPost P w) := by
  have hlc : P.length ≤ c ∧ c ≤ maxLen := ⟨hP.1, hP.2.1⟩
  unfold maxLen at hlc
  obtain ⟨hl1, hl2⟩ := hlc
  have HP := Lib.hid (hP.mono hn)
  clear hP
  have hmk : ∀ W : World, (Instr.makeSlice 26 (.int .i64 0) (.int .i64 (2 * (P.length : Int)))).run Try.prog W = .ok (.slice (some ⟨W.heap.size, 0, none⟩) 0 (2 * P.length)) (W.alloc (.cells (madeCells #[.int .i64 0, .slice none 0 0] (2 * P.length * 2)) 28)) := fun W => by
    obtain ⟨i0, hi, hz0, hz1, hz2⟩ := info_parts infoTerm
    have h := run_make (P := Try.prog) W 26 28 i0 _ Try.underlying26 hi hz0 .i64 .i64 0 (2 * (P.length : Int)) (by omega) (by omega) (by rw [hz2]; omega) (by omega)
    rw [h, hz1, show (2 * (P.length : Int)).toNat = 2 * P.length from by omega]
    rfl
  go_enter Try.func37, Try.ntmps37
  go_wp2
  have hown0 : (w.alloc (.cells (madeCells #[.int .i64 0, .slice none 0 0] (2 * P.length * 2)) 28)).ownsRow w.heap.size 28 2 (.slice (some ⟨w.heap.size, 0, none⟩) 0 (2 * P.length)) 0 [] := World.ownsRow_made w _ _ (Nat.le_refl _) (by unfold maxLen; omega) (size_madeCells _ _)
  have HO0 := Lib.hid (show OA w.heap.size (.slice (some ⟨w.heap.size, 0, none⟩) 0 (2 * P.length)) [] (w.alloc (.cells (madeCells #[.int .i64 0, .slice none 0 0] (2 * P.length * 2)) 28)) from ⟨[], hown0, trivial⟩)
  have HB0 := Lib.hid (show Below w.heap.size w (w.alloc (.cells (madeCells #[.int .i64 0, .slice none 0 0] (2 * P.length * 2)) 28)) from (Below.refl _ _).alloc (Nat.le_refl _) _)
  generalize w.alloc (.cells (madeCells #[.int .i64 0, .slice none 0 0] (2 * P.length * 2)) 28) = w1 at HO0 HB0 ⊢
  clear hmk hown0
  go_loopw [3, 12] (fun ov i wr => TmsI P w ov i wr) (fun _ i _ => P.length - (intOf i).toNat)
  case atStart => exact ⟨0, Nat.zero_le _, rfl, HO0.out, HB0.out⟩
  case round =>
    obtain ⟨k, hk, rfl, hO, hB⟩ := hrel
    have HO := Lib.hid hO
    have HB := Lib.hid hB
    have hbz := hB.size
    clear hO hB HO0 HB0
    by_cases hlt : k < P.length
    · obtain ⟨b, o, x, rfl, hb, hx, ⟨a0, a1, a2, a3, a4⟩, hxl⟩ := (HP.out.below HB.out).elem (i := k) hlt
      have HX := Lib.hid (And.intro hx hxl)
      have hk0 : (0 : Int) ≤ (k : Int) := Int.natCast_nonneg _
      have hk1 : (k : Int) < (P.length : Int) := by omega
      have hbw : b < wr.heap.size := by omega
      obtain ⟨W2, hW2⟩ : ∃ W2, wr.alloc x.obj = W2 := ⟨_, rfl⟩
      have hs2 : W2.heap.size = wr.heap.size + 1 := by rw [← hW2]; simp
      have hF2 : Below wr.heap.size wr W2 := by rw [← hW2]; exact (Below.refl _ wr).alloc (Nat.le_refl _) _
      obtain ⟨l0, l1, l2, l3, l4⟩ := (show Later (Lc wr.heap.size x) W2 from by rw [← hW2]; exact later_lc wr x).now
      have hO2 : OA w.heap.size u3 (sidesC (t3s (P.take k))) (W2.alloc (.cells #[.int .i64 x.l.head, .slice x.pa x.l.args.length x.ca, .int .i64 x.r.head, .slice x.pb x.r.args.length x.cb] 28)) := HO.out.later hbz (hF2.alloc (by omega) _)
      have hB2 : Below w.heap.size w (W2.alloc (.cells #[.int .i64 x.l.head, .slice x.pa x.l.args.length x.ca, .int .i64 x.r.head, .slice x.pb x.r.args.length x.cb] 28)) := HB.out.trans ((hF2.alloc (by omega) _).mono hbz)
      have HO2 := Lib.hid hO2
      have HB2 := Lib.hid hB2
      have HF8 := Lib.hid (show Below w.heap.size wr (W2.alloc (.cells #[.int .i64 x.l.head, .slice x.pa x.l.args.length x.ca, .int .i64 x.r.head, .slice x.pb x.r.args.length x.cb] 28)) from (hF2.alloc (by omega) _).mono hbz)
      clear hx hxl hO2 hB2 hF2
      go_wp2_with (at_builtin; refine stopHere ?_)
      refine Lib.hid ?_
      have hxl := HX.out.2
      have hnb := heap_alloc_new W2 (.cells #[.int .i64 x.l.head, .slice x.pa x.l.args.length x.ca, .int .i64 x.r.head, .slice x.pb x.r.args.length x.cb] 28)
      rw [hs2] at hnb
      have hxb := hxl.below HF8.out
      have hsrc : Src w.heap.size (W2.alloc (.cells #[.int .i64 x.l.head, .slice x.pa x.l.args.length x.ca, .int .i64 x.r.head, .slice x.pb x.r.args.length x.cb] 28)) [x.l, x.r] (some ⟨wr.heap.size + 1, 0, none⟩) 2 :=
        Src.of_two hxl.lw hxl.rw hxb.la hxb.ra (wr.heap.size + 1) (by simp [World.cell?, hnb]) (by simp [World.cell?, hnb]) (by simp [World.cell?, hnb]) (by simp [World.cell?, hnb])
      refine wpList_append_ts rfl _ _ rfl w.heap.size u3 (sidesC (t3s (P.take k))) rfl HO2.out (by simp; omega) [x.l, x.r] (some ⟨wr.heap.size + 1, 0, none⟩) 2 rfl hsrc (by rw [sidesC_length]; simp; omega) ?_
      intro v' w8 hO8 hg8 hv8
      have HO8 := Lib.hid (show OA w.heap.size v' (sidesC (t3s (P.take (k + 1)))) w8 from by rw [sidesC_snoc HX.out.1]; exact hO8)
      have HB8 := Lib.hid (HB2.out.trans ((Below.refl w.heap.size _).grown hg8 (by simp; omega) (fun q hq => (HO2.out.block hq).1)))
      clear hO8 hg8 hv8 hsrc hnb hxb hxl
      go_wp2
      go_roundw
      case rel => exact ⟨k + 1, by omega, by go_num, HO8.out, HB8.out⟩
      case measure => simp [intOf]; omega
    · obtain rfl : k = P.length := by omega
      have hO := HO.out
      rw [List.take_length] at hO
      have HR := Lib.hid hO
      clear hO
      go_wp2
      go_ret
      exact ⟨_, rfl, HR.out, HB.out⟩
/-! ### Vars -/
def CvPost (zs : List Int) (w : World) (e : Ending) (w' : World) : Prop := ∃ v, e = .returned v ∧ IsInts w' v zs ∧ Below w.heap.size w w'
set_option maxRecDepth 100000 in
set_option maxHeartbeats 2000000 in
theorem cVars_any (P : List LV) (hl : P.length ≤ 1000000) (hs : T.sizes (sidesC (t3s P)) ≤ 100000000000) (n₀ : Nat) (a : Option Addr) (c : Nat) (w : World) (hn : n₀ ≤ w.heap.size) (hP : IsCl n₀ w P a c) :
    Calls Try.prog 24 #[.slice a P.length c] w (CvPost (T.rvs [] (sidesC (t3s P))) w) := by
  have CS := Lib.hid (sides_any P hl n₀ a c w hn hP)
  clear hP
  go_enter Try.func24, Try.ntmps24
  go_wp2_with fail
  refine CS.out.mono ?_
  rintro e w2 ⟨v, rfl, hO, hb⟩
  obtain ⟨p, c2, rfl, hA⟩ := hO.args hb.size
  have HB := Lib.hid hb
  have HE := Lib.hid (show varsOf (T.subs 1 (.node 0 (sidesC (t3s P)))) = T.rvs [] (sidesC (t3s P)) from by rw [← T.rv_eq, T.rv]; rfl)
  have CV := Lib.hid (show Calls Try.prog 39 #[tm 0 p (sidesC (t3s P)).length c2] w2 (varsPost (.node 0 (sidesC (t3s P))) w2) from vars_any (.node 0 (sidesC (t3s P))) (by rw [T.size]; omega) w2.heap.size p c2 w2 (Nat.le_refl _) rfl hA)
  clear hO hb hA
  go_wp2_with fail
  refine CV.out.mono ?_
  rintro e w3 ⟨v, rfl, hi, hb3⟩
  have HI := Lib.hid hi
  have HB3 := Lib.hid (HB.out.trans (hb3.mono HB.out.size))
  clear hi hb3
  go_wp2
  go_ret
  exact ⟨_, rfl, by rw [← HE.out]; exact HI.out, HB3.out⟩
/-! ### Check -/
set_option maxRecDepth 100000 in
set_option maxHeartbeats 4000000 in
theorem cCheck_any (g : Sg) (P : List LV) (hsz : ∀ x ∈ P, x.sz) (n₀ : Nat) (ga : Option Addr) (gc : Nat) (a : Option Addr) (c : Nat) (w : World) (hn : n₀ ≤ w.heap.size) (hG : IsSg n₀ w g ga gc) (hP : IsCl n₀ w P a c) :
    Calls Try.prog 25 #[.slice ga g.length gc, .slice a P.length c] w fun e w' => e = .returned (.int .i64 (errC g (t3s P))) ∧ Below w.heap.size w w' := by
  have hlc : P.length ≤ c ∧ c ≤ maxLen := ⟨hP.1, hP.2.1⟩
  unfold maxLen at hlc
  obtain ⟨hl1, hl2⟩ := hlc
  have HSZ := Lib.hid hsz
  have HP := Lib.hid (hP.mono hn)
  have HG := Lib.hid (hG.mono hn)
  clear hP hG hsz
  go_enter Try.func25, Try.ntmps25
  go_wp2_with fail
  refine (sgCheck_any g w.heap.size ga gc w (Nat.le_refl _) HG.out).mono ?_
  rintro e w2 ⟨rfl, hb⟩
  have HB2 := Lib.hid hb
  have hbz2 := hb.size
  clear hb
  by_cases hr : rightG g = true
  case neg =>
    have HE := Lib.hid (show errC g (t3s P) = 1 from by unfold errC; rw [if_neg hr])
    rw [show errG g = 1 from by unfold errG; rw [if_neg hr]]
    clear hr
    go_wp2
    go_ret
    exact ⟨by rw [HE.out]; rfl, HB2.out⟩
  have HR := Lib.hid hr
  rw [show errG g = 0 from by unfold errG; rw [if_pos hr]]
  clear hr
  by_cases hl : 32 < P.length
  · have HE := Lib.hid (show errC g (t3s P) = 2 from by unfold errC; rw [if_pos HR.out, if_pos (by simpa using hl)])
    have hl' : 32 < (P.length : Int) := by omega
    go_wp2
    go_ret
    exact ⟨by rw [HE.out]; rfl, HB2.out⟩
  have HE := Lib.hid (show errC g (t3s P) = errs g (t3s P) from by unfold errC; rw [if_pos HR.out, if_neg (by simpa using hl)])
  have hl' : decide (32 < (P.length : Int)) = false := decide_eq_false (by omega)
  go_wp2
  go_loopw [19] (fun i wr => Ck10I g P w i wr) (fun i _ => P.length - (intOf i).toNat)
  case atStart => exact ⟨0, Nat.zero_le _, rfl, rfl, HB2.out⟩
  case round =>
    obtain ⟨k, hk, rfl, he, hB⟩ := hrel
    have HB := Lib.hid hB
    have hbz := hB.size
    have HED := Lib.hid he
    clear hB he
    by_cases hlt : k < P.length
    · obtain ⟨b, o, x, rfl, hb, hx, ⟨a0, a1, a2, a3, a4⟩, hxl⟩ := (HP.out.below HB.out).elem (i := k) hlt
      have hsx := HSZ.out x (List.mem_of_getElem? hx)
      have hbw : b < wr.heap.size := by omega
      obtain ⟨W2, hW2⟩ : ∃ W2, wr.alloc x.obj = W2 := ⟨_, rfl⟩
      have hs2 : W2.heap.size = wr.heap.size + 1 := by rw [← hW2]; simp
      have hF2 : Below wr.heap.size wr W2 := by rw [← hW2]; exact (Below.refl _ wr).alloc (Nat.le_refl _) _
      obtain ⟨l0, l1, l2, l3, l4⟩ := (show Later (Lc wr.heap.size x) W2 from by rw [← hW2]; exact later_lc wr x).now
      have CK := Lib.hid (litCheck_any g x hsx w.heap.size ga gc W2 (by omega) (HG.out.below (HB.out.trans (hF2.mono hbz))) (hxl.below (hF2.mono hbz)))
      have HX := Lib.hid (HED.out.trans (errs_drop hx))
      have HF2 := Lib.hid (HB.out.trans (hF2.mono hbz))
      have hk0 : (0 : Int) ≤ (k : Int) := Int.natCast_nonneg _
      have hk1 : (k : Int) < (P.length : Int) := by omega
      clear hx hxl hF2
      go_wp2_with fail
      refine CK.out.mono ?_
      rintro e w3 ⟨rfl, hb3⟩
      have HB3 := Lib.hid (HF2.out.trans (hb3.mono HF2.out.size))
      clear hb3 a0 a1 a2 a3 a4
      by_cases h : errL g x.l x.r = 0
      · have H := Lib.hid h
        rw [h]
        clear h
        go_wp2
        go_roundw
        case rel => exact ⟨k + 1, by omega, by go_num, by rw [HX.out, if_neg (fun e => e H.out)], HB3.out⟩
        case measure => simp [intOf]; omega
      · have HF := Lib.hid (show errC g (t3s P) = errL g x.l x.r from by rw [HE.out, HX.out, if_pos h])
        obtain ⟨m, hm⟩ : ∃ m, errL g x.l x.r = m := ⟨_, rfl⟩
        rw [hm] at h HF ⊢
        have h2 : (m != 0) = true := by simpa using h
        clear h hm
        go_wp2
        go_ret
        exact ⟨by rw [HF.out]; rfl, HB3.out⟩
    · obtain rfl : k = P.length := by omega
      have HF := Lib.hid (show errC g (t3s P) = 0 from by rw [HE.out, HED.out, List.drop_of_length_le (Nat.le_refl _)]; rfl)
      go_wp2
      go_ret
      exact ⟨by rw [HF.out]; rfl, HB.out⟩
end Go.Proofs.Ytbdabdjpgmnejaa

/- Contracts of clause's withSides and Norm. -/
namespace Go.Proofs.Ytbdabdjpgmnejaa
set_option linter.unusedVariables false
set_option linter.unusedSimpArgs false
open Go.RowKit
/-- A clause with other sides. -/
def withT : List Lt3 → List T → List Lt3
  | x :: c, l :: r :: ts => ⟨x.neg, l, r⟩ :: withT c ts
  | _, _ => []
theorem withT_sides : ∀ (c : List Lt3) (ts : List T), ts.length = 2 * c.length → sidesC (withT c ts) = ts ∧ (withT c ts).map Lt3.neg = c.map Lt3.neg
  | [], [], _ => ⟨rfl, rfl⟩
  | [], _ :: _, h => by simp at h
  | _ :: _, [], h => by simp at h
  | _ :: c, [_], h => by simp at h; omega
  | x :: c, l :: r :: ts, h => by
    obtain ⟨h1, h2⟩ := withT_sides c ts (by simp at h; omega)
    refine ⟨?_, ?_⟩
    · show [l, r] ++ sidesC (withT c ts) = _
      rw [h1]; rfl
    · show x.neg :: (withT c ts).map Lt3.neg = _
      rw [h2]; rfl
/-- Four cells of two terms. -/
def At4 (W : World) (b o : Nat) (x : LV) : Prop :=
  W.cell? ⟨b, o, none⟩ = some (.int .i64 x.l.head) ∧ W.cell? ⟨b, o + 1, none⟩ = some (.slice x.pa x.l.args.length x.ca) ∧ W.cell? ⟨b, o + 2, none⟩ = some (.int .i64 x.r.head) ∧ W.cell? ⟨b, o + 3, none⟩ = some (.slice x.pb x.r.args.length x.cb)
theorem rowQ {n : Nat} {w : World} : ∀ (P : List LV) (ts : List T) (b o : Nat), ts.length = 2 * P.length → IsRow n w ts b o → ∃ Q : List LV, Q.length = P.length ∧ t3s Q = withT (t3s P) ts ∧ ∀ (k : Nat) (x : LV), Q[k]? = some x → At4 w b (o + k * 4) x ∧ IsLv n w x ∧ ∀ y, P[k]? = some y → x.n = y.n
  | [], [], b, o, _, _ => ⟨[], rfl, rfl, by simp⟩
  | [], _ :: _, b, o, h, _ => by simp at h
  | _ :: _, [], b, o, h, _ => by simp at h
  | _ :: c, [_], b, o, h, _ => by simp at h; omega
  | y :: P, l :: r :: ts, b, o, h, hr => by
    simp only [IsRow] at hr
    obtain ⟨hl, hr', hrow⟩ := hr
    obtain ⟨wl, p1, a, c, p2, hA⟩ := isT_iff.1 hl
    obtain ⟨wr, q1, a', c', q2, hB⟩ := isT_iff.1 hr'
    obtain ⟨Q, h1, h2, h3⟩ := rowQ P ts b (o + 2 + 2) (by simp at h; omega) hrow
    refine ⟨⟨y.n, l, r, a, c, a', c'⟩ :: Q, by simp [h1], ?_, fun k x hx => ?_⟩
    · show _ :: t3s Q = _
      rw [h2]; rfl
    · cases k with
      | zero =>
        simp at hx; subst hx
        exact ⟨⟨by simpa using p1, by simpa using p2, by simpa using q1, by simpa using q2⟩, ⟨wl, wr, hA, hB⟩, fun z hz => by simp at hz; subst hz; rfl⟩
      | succ k =>
        obtain ⟨g1, g2, g3⟩ := h3 k x (by simpa using hx)
        rw [show o + (k + 1) * 4 = o + 2 + 2 + k * 4 from by omega]
        exact ⟨g1, g2, fun z hz => g3 z (by simpa using hz)⟩
theorem lcells_set {P : List LV} : ∀ {k : Nat} {x y : LV}, P[k]? = some y → y.n = x.n → ((((lcells P).set (k * 5 + 1) (.int .i64 x.l.head)).set (k * 5 + 2) (.slice x.pa x.l.args.length x.ca)).set (k * 5 + 3) (.int .i64 x.r.head)).set (k * 5 + 4) (.slice x.pb x.r.args.length x.cb) = lcells (P.set k x) := by
  induction P with
  | nil => intro k x y h; simp at h
  | cons z P ih =>
    intro k x y h hn
    cases k with
    | zero =>
      simp at h; subst h
      show _ = x.cells ++ lcells P
      show ((((z.cells ++ lcells P).set _ _).set _ _).set _ _).set _ _ = _
      simp [hn]
    | succ k =>
      have := ih (k := k) (x := x) (y := y) (by simpa using h) hn
      show ((((z.cells ++ lcells P).set _ _).set _ _).set _ _).set _ _ = z.cells ++ lcells (P.set k x)
      rw [← this]
      have e : ∀ (L : List Value) (i : Nat) (u : Value), (z.cells ++ L).set ((k + 1) * 5 + i) u = z.cells ++ L.set (k * 5 + i) u := fun L i u => by
        rw [List.set_append_right _ _ (by simp; omega)]
        congr 2
        simp; omega
      rw [e, e, e, e]
def WsI (P Q : List LV) (n₁ : Nat) (v : Value) (w : World) (i : Value) (wr : World) : Prop :=
  ∃ k : Nat, k ≤ P.length ∧ i = .int .i64 k ∧ OL (· < n₁) n₁ v (Q.take k ++ P.drop k) wr ∧ Below w.heap.size w wr
def WsPost (P : List LV) (ts : List T) (w : World) (e : Ending) (w' : World) : Prop :=
  ∃ (Q : List LV) (v : Value), e = .returned v ∧ t3s Q = withT (t3s P) ts ∧ OL (· < w.heap.size) w.heap.size v Q w' ∧ Below w.heap.size w w'
set_option maxRecDepth 100000 in
set_option maxHeartbeats 4000000 in
theorem withSides_any (P : List LV) (hl : P.length ≤ 1000000) (ts : List T) (ht : ts.length = 2 * P.length) (n₀ : Nat) (a : Option Addr) (c : Nat) (a' : Option Addr) (c' : Nat) (w : World) (hn : n₀ ≤ w.heap.size) (hP : IsCl n₀ w P a c) (hT : IsArgs n₀ w ts a' c') :
    Calls Try.prog 38 #[.slice a P.length c, .slice a' ts.length c'] w (WsPost P ts w) := by
  obtain ⟨Q, hq1, hq2, hq3⟩ : ∃ Q : List LV, Q.length = P.length ∧ t3s Q = withT (t3s P) ts ∧ ∀ (k : Nat) (x : LV), Q[k]? = some x → ∃ b o, a' = some ⟨b, o, none⟩ ∧ b < w.heap.size ∧ At4 w b (o + k * 4) x ∧ IsLv w.heap.size w x ∧ ∀ y, P[k]? = some y → x.n = y.n := by
    rcases hT.2.2 with h | ⟨b, o, h1, h2, h3⟩
    · subst h
      have : P = [] := List.eq_nil_of_length_eq_zero (by simp at ht; omega)
      subst this
      exact ⟨[], rfl, rfl, by simp⟩
    · obtain ⟨Q, q1, q2, q3⟩ := rowQ P ts b o ht h3
      exact ⟨Q, q1, q2, fun k x hx => ⟨b, o, h1, by omega, (q3 k x hx).1, (q3 k x hx).2.1.mono hn, (q3 k x hx).2.2⟩⟩
  have CL := Lib.hid (cloneL_any P hl n₀ a c w hn hP)
  have HQ := Lib.hid hq3
  have HQ1 := Lib.hid hq1
  have HQ2 := Lib.hid hq2
  have HT := Lib.hid ht
  have htl : ts.length ≤ c' ∧ c' ≤ maxLen := ⟨hT.1, hT.2.1⟩
  unfold maxLen at htl
  obtain ⟨ht1, ht2⟩ := htl
  clear hP hT hq1 hq2 hq3 ht
  go_enter Try.func38, Try.ntmps38
  go_wp2_with fail
  refine CL.out.mono ?_
  rintro e w2 ⟨v, rfl, hO, hb2⟩
  have HO0 := Lib.hid (show OL (· < w.heap.size) w.heap.size v P w2 from hO.kept (fun _ _ => rfl) (fun _ _ => rfl) (fun b hb => Nat.lt_of_lt_of_le hb hn))
  have HB2 := Lib.hid hb2
  obtain ⟨pv, cv, rfl, hcl⟩ := hO.args (fun b hb => by have : b < n₀ := hb; have := hb2.size; omega)
  have hpc : P.length ≤ cv ∧ cv ≤ maxLen := ⟨hcl.1, hcl.2.1⟩
  unfold maxLen at hpc
  obtain ⟨hp1, hp2⟩ := hpc
  clear hO hb2 hcl
  go_wp2
  go_loopw [11] (fun i wr => WsI P Q w.heap.size (.slice pv P.length cv) w i wr) (fun i _ => P.length - (intOf i).toNat)
  case atStart => exact ⟨0, Nat.zero_le _, rfl, by simpa using HO0.out, HB2.out⟩
  case round =>
    obtain ⟨k, hk, rfl, hO, hB⟩ := hrel
    have HO := Lib.hid hO
    have HB := Lib.hid hB
    have hbz := hB.size
    clear HO0 HB2
    by_cases hlt : k < P.length
    · have hQk : Q[k]? = some (Q[k]'(by rw [HQ1.out]; exact hlt)) := List.getElem?_eq_getElem _
      generalize Q[k]'(by rw [HQ1.out]; exact hlt) = x at hQk
      obtain ⟨b, o, rfl, hbn, ⟨t0, t1, t2, t3⟩, hxl, hxn⟩ := HQ.out k x hQk
      have hPk : P[k]? = some P[k] := List.getElem?_eq_getElem hlt
      have hlen : (Q.take k ++ P.drop k).length = P.length := by
        rw [List.length_append, List.length_take, List.length_drop, HQ1.out]; omega
      obtain ⟨g, rfl⟩ : ∃ g, pv = some ⟨g, 0, none⟩ := by
        rcases hO.1.2 with ⟨h, h0⟩ | ⟨g, cap, cur, h, _⟩
        · omega
        · simp only [Value.slice.injEq] at h
          exact ⟨g, h.1⟩
      have hgw : w.heap.size ≤ g ∧ g < wr.heap.size := hO.block rfl
      have hown := hO.1
      rw [hlen] at hown
      have hbg : b ≠ g := by omega
      have hbw : b < wr.heap.size := by omega
      have r0 := (hB.cell (p := ⟨b, o + k * 4, none⟩) hbn).trans t0
      have r1 := (hB.cell (p := ⟨b, o + k * 4 + 1, none⟩) hbn).trans t1
      have r2 := (hB.cell (p := ⟨b, o + k * 4 + 2, none⟩) hbn).trans t2
      have r3 := (hB.cell (p := ⟨b, o + k * 4 + 3, none⟩) hbn).trans t3
      have e1 : o + 2 * k * 2 = o + k * 4 := by omega
      have e2 : o + (2 * k + 1) * 2 = o + k * 4 + 2 := by omega
      have q0 : wr.cell? ⟨b, o + 2 * k * 2, none⟩ = some (.int .i64 x.l.head) := by rw [e1]; exact r0
      have q1 : wr.cell? ⟨b, o + 2 * k * 2 + 1, none⟩ = some (.slice x.pa x.l.args.length x.ca) := by rw [e1]; exact r1
      have q2 : wr.cell? ⟨b, o + (2 * k + 1) * 2, none⟩ = some (.int .i64 x.r.head) := by rw [e2]; exact r2
      have q3 : wr.cell? ⟨b, o + (2 * k + 1) * 2 + 1, none⟩ = some (.slice x.pb x.r.args.length x.cb) := by rw [e2]; exact r3
      clear e1 e2 r0 r1 r2 r3 t0 t1 t2 t3
      obtain ⟨s1, s2, s3, s4⟩ : (∃ u, wr.cell? ⟨g, k * 5 + 1, none⟩ = some u) ∧ (∃ u, wr.cell? ⟨g, k * 5 + 2, none⟩ = some u) ∧ (∃ u, wr.cell? ⟨g, k * 5 + 3, none⟩ = some u) ∧ (∃ u, wr.cell? ⟨g, k * 5 + 4, none⟩ = some u) := by
        obtain ⟨pa2, ca2, e, hcl⟩ := hO.args (fun b hb => by have : b < w.heap.size := hb; omega)
        simp only [Value.slice.injEq] at e
        obtain ⟨rfl, _, _⟩ := e
        obtain ⟨b2, o2, y, e, _, _, ⟨_, y1, y2, y3, y4⟩, _⟩ := hcl.elem (i := k) (by rw [hlen]; exact hlt)
        simp only [Option.some.injEq, Addr.mk.injEq, and_true] at e
        obtain ⟨rfl, rfl⟩ := e
        rw [Nat.zero_add] at y1 y2 y3 y4
        exact ⟨⟨_, y1⟩, ⟨_, y2⟩, ⟨_, y3⟩, ⟨_, y4⟩⟩
      obtain ⟨s1, hs1⟩ := s1
      obtain ⟨s2, hs2⟩ := s2
      obtain ⟨s3, hs3⟩ := s3
      obtain ⟨s4, hs4⟩ := s4
      have fz : ∀ j, wr.frozen? ⟨g, j, none⟩ = false := fun j => hown.frozenAt j
      have hk0 : (0 : Int) ≤ (k : Int) := Int.natCast_nonneg _
      have hk1 : (k : Int) < (P.length : Int) := by omega
      have hk2 : 2 * (k : Int) + 1 < (ts.length : Int) := by have := HT.out; omega
      have hnew : OL (· < w.heap.size) w.heap.size (.slice (some ⟨g, 0, none⟩) P.length cv) (Q.take (k + 1) ++ P.drop (k + 1)) ((((wr.setCell ⟨g, k * 5 + 1, none⟩ (.int .i64 x.l.head)).setCell ⟨g, k * 5 + 1 + 1, none⟩ (.slice x.pa x.l.args.length x.ca)).setCell ⟨g, k * 5 + 3, none⟩ (.int .i64 x.r.head)).setCell ⟨g, k * 5 + 3 + 1, none⟩ (.slice x.pb x.r.args.length x.cb)).drew ∧
          Below w.heap.size wr ((((wr.setCell ⟨g, k * 5 + 1, none⟩ (.int .i64 x.l.head)).setCell ⟨g, k * 5 + 1 + 1, none⟩ (.slice x.pa x.l.args.length x.ca)).setCell ⟨g, k * 5 + 3, none⟩ (.int .i64 x.r.head)).setCell ⟨g, k * 5 + 3 + 1, none⟩ (.slice x.pb x.r.args.length x.cb)).drew := by
        have hbl : Below w.heap.size wr ((((wr.setCell ⟨g, k * 5 + 1, none⟩ (.int .i64 x.l.head)).setCell ⟨g, k * 5 + 1 + 1, none⟩ (.slice x.pa x.l.args.length x.ca)).setCell ⟨g, k * 5 + 3, none⟩ (.int .i64 x.r.head)).setCell ⟨g, k * 5 + 3 + 1, none⟩ (.slice x.pb x.r.args.length x.cb)).drew :=
          (((((Below.refl _ wr).setCell (p := ⟨g, _, none⟩) hgw.1 _).setCell (p := ⟨g, _, none⟩) hgw.1 _).setCell (p := ⟨g, _, none⟩) hgw.1 _).setCell (p := ⟨g, _, none⟩) hgw.1 _).drew
        have hPe : (Q.take k ++ P.drop k)[k]? = some P[k] := by
          rw [List.getElem?_append_right (by simp; omega), List.length_take, HQ1.out, Nat.min_eq_left (by omega), Nat.sub_self, List.getElem?_drop]
          exact hPk
        have hst : (Q.take k ++ P.drop k).set k x = Q.take (k + 1) ++ P.drop (k + 1) := by
          rw [List.set_append_right _ _ (by simp; omega), List.length_take, HQ1.out, Nat.min_eq_left (by omega), Nat.sub_self, List.drop_eq_getElem_cons hlt, List.set_cons_zero, List.take_add_one, hQk]
          simp
        have h4 := ((((hown.stored (k * 5 + 1) (.int .i64 x.l.head)).1.stored (k * 5 + 2) (.slice x.pa x.l.args.length x.ca)).1.stored (k * 5 + 3) (.int .i64 x.r.head)).1.stored (k * 5 + 4) (.slice x.pb x.r.args.length x.cb)).1
        rw [lcells_set hPe (hxn _ hPk).symm, hst] at h4
        refine ⟨⟨?_, fun y hy => ?_⟩, hbl⟩
        · have hlen2 : (Q.take (k + 1) ++ P.drop (k + 1)).length = P.length := by rw [← hst, List.length_set, hlen]
          rw [hlen2]
          exact h4
        · rcases List.mem_append.1 hy with hy | hy
          · have hy' : y ∈ Q.take k ∨ y = x := by
              rw [List.take_add_one, hQk] at hy
              simpa using hy
            rcases hy' with hy' | rfl
            · exact (hO.2 y (List.mem_append_left _ hy')).keep (fun b hb => hbl.block b hb) (fun _ x => x)
            · exact isLvp_lt.2 ((hxl.below hB).below hbl)
          · have hy' : y ∈ P.drop k := by rw [List.drop_eq_getElem_cons hlt]; exact List.mem_cons_of_mem _ hy
            exact (hO.2 y (List.mem_append_right _ hy')).keep (fun b hb => hbl.block b hb) (fun _ x => x)
      have HNEW := Lib.hid hnew
      clear hO hB hnew hQk hPk hlen hown hxl hxn
      go_wp2
      go_region
      go_wp2
      go_roundw
      case rel => exact ⟨k + 1, by omega, by go_num, HNEW.out.1, HB.out.trans HNEW.out.2⟩
      case measure => simp [intOf]; omega
    · obtain rfl : k = P.length := by omega
      have HR := Lib.hid (show OL (· < w.heap.size) w.heap.size (.slice pv P.length cv) Q wr from by
        have h := HO.out
        rwa [List.drop_of_length_le (Nat.le_refl _), List.append_nil, List.take_of_length_le (by rw [HQ1.out]; exact Nat.le_refl _)] at h)
      go_wp2
      go_ret
      exact ⟨Q, _, rfl, HQ2.out, HR.out, HB.out⟩
/-! ### Norm -/
set_option maxRecDepth 100000 in
set_option maxHeartbeats 4000000 in
theorem cNorm_any (P : List LV) (hl : P.length ≤ 1000000) (hs : T.sizes (sidesC (t3s P)) ≤ 100000) (n₀ : Nat) (a : Option Addr) (c : Nat) (w : World) (hn : n₀ ≤ w.heap.size) (hP : IsCl n₀ w P a c) :
    Calls Try.prog 22 #[.slice a P.length c] w (ClEPost (nmL (t3s P)) (nmE (t3s P)) w) := by
  have HP := Lib.hid (hP.mono hn)
  clear hP
  go_enter Try.func22, Try.ntmps22
  go_wp2_with fail
  refine (sides_any P hl w.heap.size a c w (Nat.le_refl _) HP.out).mono ?_
  rintro e w2 ⟨v, rfl, hO, hb2⟩
  obtain ⟨p, c2, rfl, hA⟩ := hO.args hb2.size
  have HB2 := Lib.hid hb2
  have CN := Lib.hid (norm_any (sidesC (t3s P)) hs w2.heap.size p c2 w2 (Nat.le_refl _) hA)
  clear hO hb2 hA
  go_wp2_with fail
  refine CN.out.mono ?_
  rintro e w3 ⟨hr, hb3⟩
  have HB3 := Lib.hid (HB2.out.trans (hb3.mono HB2.out.size))
  clear hb3 CN
  rcases hr with ⟨hbad, rfl⟩ | ⟨hbad, a3, c3, rfl, hA3⟩
  · have HE := Lib.hid (show nmL (t3s P) = [] ∧ nmE (t3s P) = 1 from ⟨by unfold nmL; rw [hbad]; rfl, by unfold nmE; rw [hbad]; rfl⟩)
    clear hbad
    go_wp2
    refine bodyPost_ret (v := .tuple #[.slice none 0 0, .int .i64 1]) (by simp [results, Try.results22, go_sem]) rfl ?_
    exact ⟨[], none, 0, HE.out.1.symm, by rw [HE.out.2]; rfl, IsCl.nil _ _ _ (by simp [maxLen]), HB3.out⟩
  · have hlen : (T.nrms (sidesC (t3s P)) []).1.length = 2 * P.length := by rw [T.nrms_length, sidesC_length]; simp
    have CW := Lib.hid (withSides_any P hl (T.nrms (sidesC (t3s P)) []).1 hlen w3.heap.size a c a3 c3 w3 (Nat.le_refl _) ((HP.out.below HB3.out).mono HB3.out.size) hA3)
    have HE := Lib.hid (show nmE (t3s P) = 0 ∧ withT (t3s P) (T.nrms (sidesC (t3s P)) []).1 = nmL (t3s P) from by
      obtain ⟨h1, h2⟩ := withT_sides (t3s P) (T.nrms (sidesC (t3s P)) []).1 (by rw [hlen]; simp)
      exact ⟨by unfold nmE; rw [hbad]; rfl, lt3s_ext (by rw [h2, nm_negs _ hbad]) (by rw [h1, nm_sides hbad])⟩)
    clear hbad hA3 hlen
    go_wp2_with fail
    refine CW.out.mono ?_
    rintro e w4 ⟨Q, v, rfl, hQ, hO4, hb4⟩
    obtain ⟨p4, c4, rfl, hcl⟩ := hO4.args (fun b hb => Nat.lt_of_lt_of_le hb hb4.size)
    have HQ := Lib.hid (hQ.trans HE.out.2)
    have HCL := Lib.hid hcl
    have HB4 := Lib.hid (HB3.out.trans (hb4.mono HB3.out.size))
    clear hQ hO4 hb4 hcl CW
    go_wp2
    refine bodyPost_ret (v := .tuple #[.slice p4 Q.length c4, .int .i64 0]) (by simp [results, Try.results22, go_sem]) rfl ?_
    exact ⟨Q, p4, c4, HQ.out, by rw [HE.out.1], HCL.out, HB4.out⟩
end Go.Proofs.Ytbdabdjpgmnejaa

/- Contract of clause's Tautology. -/
namespace Go.Proofs.Ytbdabdjpgmnejaa
set_option linter.unusedVariables false
set_option linter.unusedSimpArgs false
open Go.RowKit
def oppLB (a b : Lt3) : Bool := oppL a.neg a.l a.r b.neg b.l b.r
def trueL (x : Lt3) : Bool := !x.neg && sameB x.l x.r
/-- Does a literal of the second row hold always, or is one the opposite of an earlier one? -/
def tauP : List Lt3 → List Lt3 → Bool
  | _, [] => false
  | pre, x :: c => (trueL x || pre.any (fun k => oppLB k x)) || tauP (pre ++ [x]) c
def tauC (c : List Lt3) : Bool := tauP [] c
theorem IsCl.take {n₀ : Nat} {w : World} {P : List LV} {a : Option Addr} {c : Nat} (h : IsCl n₀ w P a c) (k : Nat) : IsCl n₀ w (P.take k) a c := by
  obtain ⟨h1, h2, h3⟩ := h
  refine ⟨Nat.le_trans (by simp; omega) h1, h2, ?_⟩
  rcases h3 with rfl | ⟨b, o, h4, h5, h6⟩
  · exact .inl (by simp)
  · exact .inr ⟨b, o, h4, h5, fun j x hx => h6 j x (by
      rw [List.getElem?_take] at hx
      split at hx
      · exact hx
      · cases hx)⟩
set_option maxRecDepth 100000 in
theorem taut1_any (x o : LV) (hx : x.sz) (n₀ B2 : Nat) (W : World) (hn : n₀ ≤ W.heap.size) (hX : IsLv n₀ W x) (hO : IsLv n₀ W o) (h2 : B2 < W.heap.size) (hl : Lc B2 o W) :
    Calls Try.prog 43 #[x.v, .pointer (some ⟨B2, 0, none⟩)] W fun e w' => e = .returned (.bool (oppLB x.t3 o.t3)) ∧ Below W.heap.size W w' := by
  obtain ⟨W1, hW1⟩ : ∃ W1, W.alloc x.obj = W1 := ⟨_, rfl⟩
  have hF1 : Below W.heap.size W W1 := by rw [← hW1]; exact (Below.refl _ W).alloc (Nat.le_refl _) _
  obtain ⟨x0, x1, x2, x3, x4⟩ := (show Later (Lc W.heap.size x) W1 from by rw [← hW1]; exact later_lc W x).now
  obtain ⟨l0, l1, l2, l3, l4⟩ := hl
  have k0 := (hF1.cell (p := ⟨B2, 0, none⟩) h2).trans l0
  have k1 := (hF1.cell (p := ⟨B2, 1, none⟩) h2).trans l1
  have k2 := (hF1.cell (p := ⟨B2, 2, none⟩) h2).trans l2
  have k3 := (hF1.cell (p := ⟨B2, 3, none⟩) h2).trans l3
  have k4 := (hF1.cell (p := ⟨B2, 4, none⟩) h2).trans l4
  have HC := Lib.hid (litOpposite_any x o hx n₀ W1 (Nat.le_trans hn hF1.size) (hX.below (hF1.mono hn)) (hO.below (hF1.mono hn)))
  have HE := Lib.hid (show oppL x.n x.l x.r o.n o.l o.r = oppLB x.t3 o.t3 from rfl)
  have HF1 := Lib.hid hF1
  clear hX hO hF1 l0 l1 l2 l3 l4
  go_enter Try.func43, Try.ntmps43
  go_wp2_with fail
  refine HC.out.mono ?_
  rintro e w2 ⟨rfl, hb2⟩
  have HB := Lib.hid (HF1.out.trans (hb2.mono HF1.out.size))
  clear hb2
  go_wp2
  go_ret
  exact ⟨by rw [← HE.out]; rfl, HB.out⟩
def TauI (P : List LV) (w : World) (i : Value) (wr : World) : Prop := ∃ k : Nat, k ≤ P.length ∧ i = .int .i64 k ∧ tauC (t3s P) = tauP ((t3s P).take k) ((t3s P).drop k) ∧ Below w.heap.size w wr
theorem tau_step {P : List LV} {k : Nat} {x : LV} (h : P[k]? = some x) : tauP ((t3s P).take k) ((t3s P).drop k) = ((trueL x.t3 || (t3s (P.take k)).any (fun y => oppLB y x.t3)) || tauP ((t3s P).take (k + 1)) ((t3s P).drop (k + 1))) := by
  have h' := t3s_get h
  obtain ⟨hkl, hke⟩ := List.getElem?_eq_some_iff.1 h'
  rw [List.drop_eq_getElem_cons hkl, hke, tauP, List.take_add_one, h', ← List.map_take]
  rfl
set_option maxRecDepth 100000 in
set_option maxHeartbeats 4000000 in
theorem tautology_any (P : List LV) (hsz : ∀ x ∈ P, x.sz) (n₀ : Nat) (a : Option Addr) (c : Nat) (w : World) (hn : n₀ ≤ w.heap.size) (hP : IsCl n₀ w P a c) :
    Calls Try.prog 27 #[.slice a P.length c] w fun e w' => e = .returned (.bool (tauC (t3s P))) ∧ Below w.heap.size w w' := by
  have hlc : P.length ≤ c ∧ c ≤ maxLen := ⟨hP.1, hP.2.1⟩
  unfold maxLen at hlc
  obtain ⟨hl1, hl2⟩ := hlc
  have HP := Lib.hid (hP.mono hn)
  have HSZ := Lib.hid hsz
  have eg := enters_of Try.func43 (by kernel_rfl) rfl
  clear hP hsz
  go_enter Try.func27, Try.ntmps27
  go_wp2
  go_loopw [7] (fun i wr => TauI P w i wr) (fun i _ => P.length - (intOf i).toNat)
  case atStart => exact ⟨0, Nat.zero_le _, rfl, rfl, Below.refl _ _⟩
  case round =>
    obtain ⟨k, hk, rfl, hE, hB⟩ := hrel
    have HE := Lib.hid hE
    have HB := Lib.hid hB
    have hbz := hB.size
    clear hE hB
    by_cases hlt : k < P.length
    · obtain ⟨b, o, x, rfl, hb, hx, ⟨a0, a1, a2, a3, a4⟩, hxl⟩ := (HP.out.below HB.out).elem (i := k) hlt
      have hxs := HSZ.out x (List.mem_of_getElem? hx)
      have hk0 : (0 : Int) ≤ (k : Int) := Int.natCast_nonneg _
      have hk1 : (k : Int) < (P.length : Int) := by omega
      have hk2 : (k : Int) ≤ (c : Int) := by omega
      have hk3 : k ≤ c := by omega
      have hbw : b < wr.heap.size := by omega
      obtain ⟨W2, hW2⟩ : ∃ W2, wr.alloc x.obj = W2 := ⟨_, rfl⟩
      have hs2 : W2.heap.size = wr.heap.size + 1 := by rw [← hW2]; simp
      have hF2 : Below wr.heap.size wr W2 := by rw [← hW2]; exact (Below.refl _ wr).alloc (Nat.le_refl _) _
      have L2 := (show Later (Lc wr.heap.size x) W2 from by rw [← hW2]; exact later_lc wr x)
      have hB2 : Below w.heap.size w W2 := HB.out.trans (hF2.mono hbz)
      have hx2 : IsLv w.heap.size W2 x := hxl.below (hF2.mono hbz)
      have CA := Lib.hid (always_any x hxs w.heap.size W2 (by omega) hx2)
      have HC := Lib.hid (fun (W : World) (hW : Below W2.heap.size W2 W) => containsL_any (fun y => oppLB y x.t3) 43 #[.pointer (some ⟨wr.heap.size, 0, none⟩)] eg (P.take k) w.heap.size (some ⟨b, o, none⟩) c W (by have := hW.size; omega) ((HP.out.below (hB2.trans (hW.mono (by omega)))).take k)
        (fun X t ht hX htl => taut1_any t x (HSZ.out t (List.mem_of_mem_take ht)) w.heap.size wr.heap.size X (by have := hW.size; have := hX.size; omega) htl (hx2.below ((hW.trans (hX.mono hW.size)).mono (by omega))) (by have := hW.size; have := hX.size; omega) (L2.mv (hW.trans (hX.mono hW.size))).now))
      rw [show (P.take k).length = k from by rw [List.length_take]; omega] at HC
      have HST := Lib.hid (HE.out.trans (tau_step hx))
      have HB2 := Lib.hid hB2
      have HL2 := Lib.hid L2
      obtain ⟨l0, l1, l2, l3, l4⟩ := L2.now
      clear hx hxl hF2 L2 hB2 hx2 eg
      go_wp2_with fail
      refine CA.out.mono ?_
      rintro e w3 ⟨rfl, hb3⟩
      have HB3 := Lib.hid hb3
      have hz3 := hb3.size
      clear hb3 CA l0 l1 l2 l3 l4 hW2
      have HTL := Lib.hid (show trueL x.t3 = (!x.n && sameB x.l x.r) from rfl)
      obtain ⟨q, hq⟩ : ∃ q, (!x.n && sameB x.l x.r) = q := ⟨_, rfl⟩
      have HQ := Lib.hid (HTL.out.trans hq)
      rw [hq]
      clear hq HTL
      cases q with
      | true =>
        have HR := Lib.hid (show tauC (t3s P) = true from by rw [HST.out, HQ.out]; rfl)
        go_wp2
        go_ret
        exact ⟨by rw [HR.out]; rfl, HB2.out.trans (HB3.out.mono HB2.out.size)⟩
      | false =>
        go_wp2_with fail
        refine (HC.out w3 HB3.out).mono ?_
        rintro e w4 ⟨rfl, hb4⟩
        have HB4 := Lib.hid ((HB2.out.trans (HB3.out.mono HB2.out.size)).trans (hb4.mono (by omega)))
        clear hb4 HC
        obtain ⟨q2, hq2⟩ : ∃ q2, (t3s (P.take k)).any (fun y => oppLB y x.t3) = q2 := ⟨_, rfl⟩
        have HQ2 := Lib.hid hq2
        rw [hq2]
        clear hq2
        cases q2 with
        | true =>
          have HR := Lib.hid (show tauC (t3s P) = true from by rw [HST.out, HQ.out, HQ2.out]; rfl)
          go_wp2
          go_ret
          exact ⟨by rw [HR.out]; rfl, HB4.out⟩
        | false =>
          have HR := Lib.hid (show tauC (t3s P) = tauP ((t3s P).take (k + 1)) ((t3s P).drop (k + 1)) from by rw [HST.out, HQ.out, HQ2.out]; rfl)
          go_wp2
          go_roundw
          case rel => exact ⟨k + 1, by omega, by go_num, HR.out, HB4.out⟩
          case measure => simp [intOf]; omega
    · obtain rfl : k = P.length := by omega
      have HR := Lib.hid (show tauC (t3s P) = false from by rw [HE.out, List.drop_of_length_le (by simp)]; rfl)
      go_wp2
      go_ret
      exact ⟨by rw [HR.out]; rfl, HB.out⟩
end Go.Proofs.Ytbdabdjpgmnejaa

/- Contracts of clause's notValid, firstFree, shifted and Apart. -/
namespace Go.Proofs.Ytbdabdjpgmnejaa
set_option linter.unusedVariables false
set_option linter.unusedSimpArgs false
open Go.RowKit
/-! ### Plain facts -/
/-! ### notValid -/
theorem ints_sl10 {w : World} {v : Value} {zs : List Int} (h : IsInts w v zs) : ∃ a c, v = .slice a zs.length c ∧ IsIs w.heap.size w zs a c := by
  rcases h with ⟨rfl, rfl⟩ | ⟨g, cap, rfl, hg, h1, h2, h3⟩
  · exact ⟨none, 0, rfl, by simp, by simp [maxLen], .inl rfl⟩
  · exact ⟨_, cap, rfl, h1, h2, .inr ⟨g, 0, rfl, hg, fun j z hz => by rw [Nat.zero_add]; exact h3 j z hz⟩⟩
/-! ### firstFree -/
/-! ### shifted -/
theorem RowVals.mono {ok ok' : Nat → Prop} {w : World} {U : List T} {xs : List Value} (h : RowVals ok w U xs) (hm : ∀ b, ok b → ok' b) : RowVals ok' w U xs := h.keep (fun _ _ => rfl) hm
/-! ### Apart -/
end Go.Proofs.Ytbdabdjpgmnejaa
