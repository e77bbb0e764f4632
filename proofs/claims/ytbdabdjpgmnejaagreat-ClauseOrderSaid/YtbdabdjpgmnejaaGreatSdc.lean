/- Contracts of clause's sides, Vars, Check. -/
import Derived.Test.YtbdabdjpgmnejaaGreatIxl
import Derived.Test.YtbdabdjpgmnejaaGreatQDf
import Derived.Test.YtbdabdjpgmnejaaGreatQDe
import Derived.Test.YtbdabdjpgmnejaaGreatQDl
import Derived.Test.YtbdabdjpgmnejaaGreatQDb
import Derived.Test.YtbdabdjpgmnejaaGreatQDk
import Derived.Laws.MakeOwn
namespace Go.Proofs.YtbdabdjpgmnejaaGreat
set_option linter.unusedVariables false
set_option linter.unusedSimpArgs false
open Go.RowKit

/-! ### sides -/
def SdPost (P : List LV) (w : World) (e : Ending) (w' : World) : Prop := ∃ v, e = .returned v ∧ OA w.heap.size v (sidesC (t3s P)) w' ∧ Below w.heap.size w w'

set_option maxRecDepth 100000 in
set_option maxHeartbeats 4000000 in
theorem sides_any (P : List LV) (hl : P.length ≤ 1000000) (n₀ : Nat) (a : Option Addr) (c : Nat) (w : World) (hn : n₀ ≤ w.heap.size) (hP : IsCl n₀ w P a c) :
    Calls Tryz.prog 29 #[.slice a P.length c] w (SdPost P w) := by
  have hlc : P.length ≤ c ∧ c ≤ maxLen := ⟨hP.1, hP.2.1⟩
  unfold maxLen at hlc
  obtain ⟨hl1, hl2⟩ := hlc
  have HP := Lib.hid (hP.mono hn)
  clear hP
  have hmk : ∀ W : World, (Instr.makeSlice 32 (.int .i64 0) (.int .i64 (2 * (P.length : Int)))).run Tryz.prog W = .ok (.slice (some ⟨W.heap.size, 0, none⟩) 0 (2 * P.length)) (W.alloc (.cells (madeCells #[.int .i64 0, .slice none 0 0] (2 * P.length * 2)) 34)) := fun W => by
    obtain ⟨i0, hi, hz0, hz1, hz2⟩ := info_parts infoTerm
    have h := run_make (P := Tryz.prog) W 32 34 i0 _ Tryz.underlying32 hi hz0 .i64 .i64 0 (2 * (P.length : Int)) (by omega) (by omega) (by rw [hz2]; omega) (by omega)
    rw [h, hz1, show (2 * (P.length : Int)).toNat = 2 * P.length from by omega]
    rfl
  go_enter Tryz.func29, Tryz.ntmps29
  go_wp2
  have hown0 : (w.alloc (.cells (madeCells #[.int .i64 0, .slice none 0 0] (2 * P.length * 2)) 34)).ownsRow w.heap.size 34 2 (.slice (some ⟨w.heap.size, 0, none⟩) 0 (2 * P.length)) 0 [] := World.ownsRow_made w _ _ (Nat.le_refl _) (by unfold maxLen; omega) (size_madeCells _ _)
  have HO0 := Lib.hid (show OA w.heap.size (.slice (some ⟨w.heap.size, 0, none⟩) 0 (2 * P.length)) [] (w.alloc (.cells (madeCells #[.int .i64 0, .slice none 0 0] (2 * P.length * 2)) 34)) from ⟨[], hown0, trivial⟩)
  have HB0 := Lib.hid (show Below w.heap.size w (w.alloc (.cells (madeCells #[.int .i64 0, .slice none 0 0] (2 * P.length * 2)) 34)) from (Below.refl _ _).alloc (Nat.le_refl _) _)
  generalize w.alloc (.cells (madeCells #[.int .i64 0, .slice none 0 0] (2 * P.length * 2)) 34) = w1 at HO0 HB0 ⊢
  clear hmk hown0
  go_loopw [3, 12] (fun ov i wr => TmsI P w ov i wr) (fun _ i _ => P.length - (intOf i).toNat)
  case atStart => exact ⟨0, Nat.zero_le _, rfl, HO0.out, HB0.out⟩
  case round =>
    obtain ⟨k, hk, rfl, hO, hB⟩ := hrel
    have HO := Lib.hid hO
    have HB := Lib.hid hB
    have hbz := hB.size
    clear hO hB HO0 HB0
    by_cases hlt : k < P.length
    · obtain ⟨b, o, x, rfl, hb, hx, ⟨a0, a1, a2, a3, a4⟩, hxl⟩ := (HP.out.below HB.out).elem (i := k) hlt
      have HX := Lib.hid (And.intro hx hxl)
      have hk0 : (0 : Int) ≤ (k : Int) := Int.natCast_nonneg _
      have hk1 : (k : Int) < (P.length : Int) := by omega
      have hbw : b < wr.heap.size := by omega
      obtain ⟨W2, hW2⟩ : ∃ W2, wr.alloc x.obj = W2 := ⟨_, rfl⟩
      have hs2 : W2.heap.size = wr.heap.size + 1 := by rw [← hW2]; simp
      have hF2 : Below wr.heap.size wr W2 := by rw [← hW2]; exact (Below.refl _ wr).alloc (Nat.le_refl _) _
      obtain ⟨l0, l1, l2, l3, l4⟩ := (show Later (Lc wr.heap.size x) W2 from by rw [← hW2]; exact later_lc wr x).now
      have hO2 : OA w.heap.size u3 (sidesC (t3s (P.take k))) (W2.alloc (.cells #[.int .i64 x.l.head, .slice x.pa x.l.args.length x.ca, .int .i64 x.r.head, .slice x.pb x.r.args.length x.cb] 34)) := HO.out.later hbz (hF2.alloc (by omega) _)
      have hB2 : Below w.heap.size w (W2.alloc (.cells #[.int .i64 x.l.head, .slice x.pa x.l.args.length x.ca, .int .i64 x.r.head, .slice x.pb x.r.args.length x.cb] 34)) := HB.out.trans ((hF2.alloc (by omega) _).mono hbz)
      have HO2 := Lib.hid hO2
      have HB2 := Lib.hid hB2
      have HF8 := Lib.hid (show Below w.heap.size wr (W2.alloc (.cells #[.int .i64 x.l.head, .slice x.pa x.l.args.length x.ca, .int .i64 x.r.head, .slice x.pb x.r.args.length x.cb] 34)) from (hF2.alloc (by omega) _).mono hbz)
      clear hx hxl hO2 hB2 hF2
      go_wp2_with (at_builtin; refine stopHere ?_)
      refine Lib.hid ?_
      have hxl := HX.out.2
      have hnb := heap_alloc_new W2 (.cells #[.int .i64 x.l.head, .slice x.pa x.l.args.length x.ca, .int .i64 x.r.head, .slice x.pb x.r.args.length x.cb] 34)
      rw [hs2] at hnb
      have hxb := hxl.below HF8.out
      have hsrc : Src w.heap.size (W2.alloc (.cells #[.int .i64 x.l.head, .slice x.pa x.l.args.length x.ca, .int .i64 x.r.head, .slice x.pb x.r.args.length x.cb] 34)) [x.l, x.r] (some ⟨wr.heap.size + 1, 0, none⟩) 2 :=
        Src.of_two hxl.lw hxl.rw hxb.la hxb.ra (wr.heap.size + 1) (by simp [World.cell?, hnb]) (by simp [World.cell?, hnb]) (by simp [World.cell?, hnb]) (by simp [World.cell?, hnb])
      refine wpList_append_ts rfl _ _ rfl w.heap.size u3 (sidesC (t3s (P.take k))) rfl HO2.out (by simp; omega) [x.l, x.r] (some ⟨wr.heap.size + 1, 0, none⟩) 2 rfl hsrc (by rw [sidesC_length]; simp; omega) ?_
      intro v' w8 hO8 hg8 hv8
      have HO8 := Lib.hid (show OA w.heap.size v' (sidesC (t3s (P.take (k + 1)))) w8 from by rw [sidesC_snoc HX.out.1]; exact hO8)
      have HB8 := Lib.hid (HB2.out.trans ((Below.refl w.heap.size _).grown hg8 (by simp; omega) (fun q hq => (HO2.out.block hq).1)))
      clear hO8 hg8 hv8 hsrc hnb hxb hxl
      go_wp2
      go_roundw
      case rel => exact ⟨k + 1, by omega, by go_num, HO8.out, HB8.out⟩
      case measure => simp [intOf]; omega
    · obtain rfl : k = P.length := by omega
      have hO := HO.out
      rw [List.take_length] at hO
      have HR := Lib.hid hO
      clear hO
      go_wp2
      go_ret
      exact ⟨_, rfl, HR.out, HB.out⟩

/-! ### Vars -/
def CvPost (zs : List Int) (w : World) (e : Ending) (w' : World) : Prop := ∃ v, e = .returned v ∧ IsInts w' v zs ∧ Below w.heap.size w w'

set_option maxRecDepth 100000 in
set_option maxHeartbeats 2000000 in
theorem cVars_any (P : List LV) (hl : P.length ≤ 1000000) (hs : T.sizes (sidesC (t3s P)) ≤ 100000000000) (n₀ : Nat) (a : Option Addr) (c : Nat) (w : World) (hn : n₀ ≤ w.heap.size) (hP : IsCl n₀ w P a c) :
    Calls Tryz.prog 16 #[.slice a P.length c] w (CvPost (T.rvs [] (sidesC (t3s P))) w) := by
  have CS := Lib.hid (sides_any P hl n₀ a c w hn hP)
  clear hP
  go_enter Tryz.func16, Tryz.ntmps16
  go_wp2_with fail
  refine CS.out.mono ?_
  rintro e w2 ⟨v, rfl, hO, hb⟩
  obtain ⟨p, c2, rfl, hA⟩ := hO.args hb.size
  have HB := Lib.hid hb
  have HE := Lib.hid (show varsOf (T.subs 1 (.node 0 (sidesC (t3s P)))) = T.rvs [] (sidesC (t3s P)) from by rw [← T.rv_eq, T.rv]; rfl)
  have CV := Lib.hid (show Calls Tryz.prog 48 #[tm 0 p (sidesC (t3s P)).length c2] w2 (varsPost (.node 0 (sidesC (t3s P))) w2) from vars_any (.node 0 (sidesC (t3s P))) (by rw [T.size]; omega) w2.heap.size p c2 w2 (Nat.le_refl _) rfl hA)
  clear hO hb hA
  go_wp2_with fail
  refine CV.out.mono ?_
  rintro e w3 ⟨v, rfl, hi, hb3⟩
  have HI := Lib.hid hi
  have HB3 := Lib.hid (HB.out.trans (hb3.mono HB.out.size))
  clear hi hb3
  go_wp2
  go_ret
  exact ⟨_, rfl, by rw [← HE.out]; exact HI.out, HB3.out⟩

/-! ### Check -/
set_option maxRecDepth 100000 in
set_option maxHeartbeats 4000000 in
theorem cCheck_any (g : Sg) (P : List LV) (hsz : ∀ x ∈ P, x.sz) (n₀ : Nat) (ga : Option Addr) (gc : Nat) (a : Option Addr) (c : Nat) (w : World) (hn : n₀ ≤ w.heap.size) (hG : IsSg n₀ w g ga gc) (hP : IsCl n₀ w P a c) :
    Calls Tryz.prog 21 #[.slice ga g.length gc, .slice a P.length c] w fun e w' => e = .returned (.int .i64 (errC g (t3s P))) ∧ Below w.heap.size w w' := by
  have hlc : P.length ≤ c ∧ c ≤ maxLen := ⟨hP.1, hP.2.1⟩
  unfold maxLen at hlc
  obtain ⟨hl1, hl2⟩ := hlc
  have HSZ := Lib.hid hsz
  have HP := Lib.hid (hP.mono hn)
  have HG := Lib.hid (hG.mono hn)
  clear hP hG hsz
  go_enter Tryz.func21, Tryz.ntmps21
  go_wp2_with fail
  refine (sgCheck_any g w.heap.size ga gc w (Nat.le_refl _) HG.out).mono ?_
  rintro e w2 ⟨rfl, hb⟩
  have HB2 := Lib.hid hb
  have hbz2 := hb.size
  clear hb
  by_cases hr : rightG g = true
  case neg =>
    have HE := Lib.hid (show errC g (t3s P) = 1 from by unfold errC; rw [if_neg hr])
    rw [show errG g = 1 from by unfold errG; rw [if_neg hr]]
    clear hr
    go_wp2
    go_ret
    exact ⟨by rw [HE.out]; rfl, HB2.out⟩
  have HR := Lib.hid hr
  rw [show errG g = 0 from by unfold errG; rw [if_pos hr]]
  clear hr
  by_cases hl : 32 < P.length
  · have HE := Lib.hid (show errC g (t3s P) = 2 from by unfold errC; rw [if_pos HR.out, if_pos (by simpa using hl)])
    have hl' : 32 < (P.length : Int) := by omega
    go_wp2
    go_ret
    exact ⟨by rw [HE.out]; rfl, HB2.out⟩
  have HE := Lib.hid (show errC g (t3s P) = errs g (t3s P) from by unfold errC; rw [if_pos HR.out, if_neg (by simpa using hl)])
  have hl' : decide (32 < (P.length : Int)) = false := decide_eq_false (by omega)
  go_wp2
  go_loopw [19] (fun i wr => Ck10I g P w i wr) (fun i _ => P.length - (intOf i).toNat)
  case atStart => exact ⟨0, Nat.zero_le _, rfl, rfl, HB2.out⟩
  case round =>
    obtain ⟨k, hk, rfl, he, hB⟩ := hrel
    have HB := Lib.hid hB
    have hbz := hB.size
    have HED := Lib.hid he
    clear hB he
    by_cases hlt : k < P.length
    · obtain ⟨b, o, x, rfl, hb, hx, ⟨a0, a1, a2, a3, a4⟩, hxl⟩ := (HP.out.below HB.out).elem (i := k) hlt
      have hsx := HSZ.out x (List.mem_of_getElem? hx)
      have hbw : b < wr.heap.size := by omega
      obtain ⟨W2, hW2⟩ : ∃ W2, wr.alloc x.obj = W2 := ⟨_, rfl⟩
      have hs2 : W2.heap.size = wr.heap.size + 1 := by rw [← hW2]; simp
      have hF2 : Below wr.heap.size wr W2 := by rw [← hW2]; exact (Below.refl _ wr).alloc (Nat.le_refl _) _
      obtain ⟨l0, l1, l2, l3, l4⟩ := (show Later (Lc wr.heap.size x) W2 from by rw [← hW2]; exact later_lc wr x).now
      have CK := Lib.hid (litCheck_any g x hsx w.heap.size ga gc W2 (by omega) (HG.out.below (HB.out.trans (hF2.mono hbz))) (hxl.below (hF2.mono hbz)))
      have HX := Lib.hid (HED.out.trans (errs_drop hx))
      have HF2 := Lib.hid (HB.out.trans (hF2.mono hbz))
      have hk0 : (0 : Int) ≤ (k : Int) := Int.natCast_nonneg _
      have hk1 : (k : Int) < (P.length : Int) := by omega
      clear hx hxl hF2
      go_wp2_with fail
      refine CK.out.mono ?_
      rintro e w3 ⟨rfl, hb3⟩
      have HB3 := Lib.hid (HF2.out.trans (hb3.mono HF2.out.size))
      clear hb3 a0 a1 a2 a3 a4
      by_cases h : errL g x.l x.r = 0
      · have H := Lib.hid h
        rw [h]
        clear h
        go_wp2
        go_roundw
        case rel => exact ⟨k + 1, by omega, by go_num, by rw [HX.out, if_neg (fun e => e H.out)], HB3.out⟩
        case measure => simp [intOf]; omega
      · have HF := Lib.hid (show errC g (t3s P) = errL g x.l x.r from by rw [HE.out, HX.out, if_pos h])
        obtain ⟨m, hm⟩ : ∃ m, errL g x.l x.r = m := ⟨_, rfl⟩
        rw [hm] at h HF ⊢
        have h2 : (m != 0) = true := by simpa using h
        clear h hm
        go_wp2
        go_ret
        exact ⟨by rw [HF.out]; rfl, HB3.out⟩
    · obtain rfl : k = P.length := by omega
      have HF := Lib.hid (show errC g (t3s P) = 0 from by rw [HE.out, HED.out, List.drop_of_length_le (Nat.le_refl _)]; rfl)
      go_wp2
      go_ret
      exact ⟨by rw [HF.out]; rfl, HB.out⟩

end Go.Proofs.YtbdabdjpgmnejaaGreat
