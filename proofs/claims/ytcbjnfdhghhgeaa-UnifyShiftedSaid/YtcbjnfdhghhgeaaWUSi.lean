/- The walk of UnifySides. -/
import Derived.Test.YtcbjnfdhghhgeaaQ1i
import Derived.Test.YtcbjnfdhghhgeaaAw4
import Derived.Test.YtcbjnfdhghhgeaaFew4
namespace Go.Proofs.Ytcbjnfdhghhgeaa
set_option linter.unusedVariables false
set_option linter.unusedSimpArgs false
open Go.RowKit

/-- Two terms laid side by side. -/
theorem two_mem {b : Nat} {x y : T} {a a' : Option Addr} {c c' : Nat} {X : World} (hx : Cs b [.int .i64 x.head, .slice a x.args.length c, .int .i64 y.head, .slice a' y.args.length c'] X) (hxw : (Lit.int .i64 x.head).wf = true) (hyw : (Lit.int .i64 y.head).wf = true) (hA : IsArgs X.heap.size X x.args a c) (hB : IsArgs X.heap.size X y.args a' c') : IsArgs X.heap.size X [x, y] (some ⟨b, 0, none⟩) 2 := by
  obtain ⟨hx, cx⟩ := hx
  exact ⟨by simp, by simp [maxLen], .inr ⟨b, 0, rfl, hx, isT_iff.2 ⟨hxw, cx 0 _ rfl, _, _, cx 1 _ rfl, hA⟩, isT_iff.2 ⟨hyw, cx 2 _ rfl, _, _, cx 3 _ rfl, hB⟩, trivial⟩⟩

def CutS (v : Int) (x : T) (w5 : World) (v16 v17 v18 : Value) (wx : World) : Prop := ∃ (s : Sb) (b : Bool) (k : Int) (a : Option Addr) (c : Nat), v16 = .slice a s.length c ∧ v17 = .bool b ∧ v18 = .int .i64 k ∧ MguR (vt v) x s b k ∧ Below w5.heap.size w5 wx

set_option maxRecDepth 100000 in
set_option maxHeartbeats 8000000 in
theorem unifySides_walk (x y : T) (v : Int) (a : Option Addr) (c : Nat) (a' : Option Addr) (c' : Nat) (w : World) (hxw : (Lit.int .i64 x.head).wf = true) (hyw : (Lit.int .i64 y.head).wf = true) (hvw : (Lit.int .i64 v).wf = true) (hA : IsArgs w.heap.size w x.args a c) (hB : IsArgs w.heap.size w y.args a' c') :
    Calls Try.prog 6 #[tm x.head a x.args.length c, tm y.head a' y.args.length c', .int .i64 v] w fun e w' => e = .returned (.bool true) ∧ Below w.heap.size w w' := by
  have HXW := Lib.hid hxw
  have HYW := Lib.hid hyw
  have d0 := ((((Later.below (Below.refl _ w)).and (later_args hB)).and (later_args hA)).push (Below.refl _ _) x.head a x.args.length c).push (Below.refl _ _) y.head a' y.args.length c'
  rw [heap_alloc_size] at d0
  have D := Lib.hid d0
  clear hxw hyw hA hB d0
  have hv := wf_low hvw
  go_enter Try.func6, Try.ntmps6
  go_wp2_with fail
  have hsz : ((w.alloc (.cells #[.int .i64 x.head, .slice a x.args.length c] 25)).alloc (.cells #[.int .i64 y.head, .slice a' y.args.length c'] 25)).heap.size = w.heap.size + 1 + 1 := by simp
  generalize (w.alloc (.cells #[.int .i64 x.head, .slice a x.args.length c] 25)).alloc (.cells #[.int .i64 y.head, .slice a' y.args.length c'] 25) = wB at D hsz ⊢
  have d1 := D.out.pushC (Below.refl _ _) #[.int .i64 x.head, .slice a x.args.length c, .int .i64 y.head, .slice a' y.args.length c'] 25
  rw [hsz] at d1
  have D1 := Lib.hid d1
  clear d1 hsz D
  generalize wB.alloc (.cells #[.int .i64 x.head, .slice a x.args.length c, .int .i64 y.head, .slice a' y.args.length c'] 25) = w1 at D1 ⊢
  generalize hb0 : w.heap.size = b0 at D1 ⊢
  have HB0 := Lib.hid hb0
  clear hb0
  refine (few4_any [x, y] w1.heap.size _ 2 w1 (Nat.le_refl _) (two_mem D1.out.now.1 HXW.out HYW.out D1.out.now.2.2.2.1 D1.out.now.2.2.2.2.1)).mono ?_
  rintro e w2 ⟨f1, rfl, hfew, hb⟩
  have D2 := Lib.hid (D1.out.mv hb)
  clear hb D1
  cases f1
  case false =>
    have HQ := Lib.hid D2.out.now.2.2.2.2.2
    clear D2 hfew
    go_wp2
    go_ret
    exact ⟨rfl, by rw [HB0.out]; exact HQ.out⟩
  have hxs : x.size ≤ 1000000000000 := Nat.le_trans (hfew rfl x (by simp)) (by omega)
  have hys : y.size ≤ 1000000000000 := Nat.le_trans (hfew rfl y (by simp)) (by omega)
  clear hfew
  by_cases hv0 : v < 0
  · have HQ := Lib.hid D2.out.now.2.2.2.2.2
    clear D2
    go_wp2
    go_ret
    exact ⟨rfl, by rw [HB0.out]; exact HQ.out⟩
  by_cases hv1 : 255 < v
  · have HQ := Lib.hid D2.out.now.2.2.2.2.2
    clear D2
    go_wp2
    go_ret
    exact ⟨rfl, by rw [HB0.out]; exact HQ.out⟩
  obtain ⟨_, ⟨y0, y1⟩, ⟨x0, x1⟩, _⟩ := D2.out.now
  go_wp2_with fail
  clear y0 y1 x0 x1
  refine (mgu_full x y hxs hys w2.heap.size a c a' c' w2 (Nat.le_refl _) HXW.out HYW.out D2.out.now.2.2.2.1 D2.out.now.2.2.2.2.1).mono ?_
  rintro e w3 ⟨w2', hbb, h3⟩
  obtain ⟨s, b1, k1, as1, cs1, rfl, hS, hb, hR1⟩ := mgu_key h3
  have D3 := Lib.hid (((D2.out.mv hbb).mv hb).and (later_bs hS))
  clear h3 hS hb hbb D2
  obtain ⟨_, _, ⟨y0, y1⟩, ⟨x0, x1⟩, _⟩ := D3.out.now
  go_wp2_with fail
  clear y0 y1 x0 x1
  refine (mgu_full y x hys hxs w3.heap.size a' c' a c w3 (Nat.le_refl _) HYW.out HXW.out D3.out.now.2.2.2.2.2.1 D3.out.now.2.2.2.2.1).mono ?_
  rintro e w4 ⟨w3', hbb, h4⟩
  obtain ⟨s', b2, k2, as2, cs2, rfl, hS, hb, hR2⟩ := mgu_key h4
  obtain ⟨rfl, rfl, rfl⟩ := hR1.fn hR2.swap
  have D4 := Lib.hid (((D3.out.mv hbb).mv hb).and (later_bs hS))
  clear h4 hS hb hbb D3 hR2
  by_cases hk : k1 = 1
  · subst hk
    clear hR1
    go_wp2_with fail
    refine (awake4_any w4).mono ?_
    rintro e w5 ⟨rfl, hb⟩
    have HQ := Lib.hid (D4.out w5 hb).2.2.2.2.2.2.2
    clear hb D4
    go_wp2
    go_ret
    exact ⟨rfl, by rw [HB0.out]; exact HQ.out⟩
  have hke : (k1 == 1) = false := by simpa using hk
  obtain ⟨hcx, hcy⟩ := hR1.good hk
  clear hR1
  have HCX := Lib.hid hcx
  clear hcx hcy
  obtain ⟨_, _, _, ⟨y0, y1⟩, ⟨x0, x1⟩, _⟩ := D4.out.now
  go_wp2_with fail
  clear y0 y1 x0 x1
  refine (mgu_full x x hxs hxs w4.heap.size a c a c w4 (Nat.le_refl _) HXW.out HXW.out D4.out.now.2.2.2.2.2.1 D4.out.now.2.2.2.2.2.1).mono ?_
  rintro e w5 ⟨w4', hbb, h5⟩
  obtain ⟨s2, b2, k2, as3, cs3, rfl, hS, hb, hR2⟩ := mgu_key h5
  obtain ⟨rfl, rfl, rfl⟩ := hR2.self HCX.out
  have D5 := Lib.hid (((D4.out.mv hbb).mv hb).and (later_bs hS))
  clear h5 hS hb hbb D4 hR2
  have KP := Lib.hid (show ∀ W, Below w5.heap.size w5 W → W.cell? ⟨b0, 0, none⟩ = some (.int .i64 x.head) ∧ W.cell? ⟨b0, 1, none⟩ = some (.slice a x.args.length c) ∧ Below w5.heap.size w5 W from fun W hW => by
    obtain ⟨_, _, _, _, _, ⟨x0, x1⟩, _⟩ := D5.out W hW
    exact ⟨x0, x1, hW⟩)
  obtain ⟨x0, x1, _⟩ := KP.out w5 (Below.refl _ _)
  have VW := Lib.hid (wf_vt (v := v) (by omega) (by omega))
  go_wp2_with fail
  go_cut [16, 17, 18] from 92 (fun v16 v17 v18 wx => CutS v x w5 v16 v17 v18 wx)
  case first =>
    refine wp_region_noPanic ?_
    go_region_held3 (fun w' => w'.cell? ⟨b0, 0, none⟩ = some (.int .i64 x.head) ∧ w'.cell? ⟨b0, 1, none⟩ = some (.slice a x.args.length c) ∧ Below w5.heap.size w5 w')
      (first
        | exact KP.out _ (Below.refl _ _)
        | exact KP.out _ (Below.refl _ _).drew
        | exact KP.out _ hB)
      (first
        | (go_at_call 26; with_reducible refine (refVar_any v _ (by omega) (by omega)).mono ?_; rintro e u1 ⟨rfl, hu⟩; have hB := bl_call (‹_ ∧ _ ∧ Below w5.heap.size w5 _›.2.2) hu)
        | (go_at_call 22; refine (mgu_full (vt v) x (by simp [vt, T.size, T.sizes]) hxs u1.heap.size none 0 a c u1 (Nat.le_refl _) VW.out HXW.out ⟨Nat.le_refl _, by simp [maxLen], .inl rfl⟩ (D5.out u1 hB).2.2.2.2.2.2.1).mono ?_; rintro e u2 ⟨u1', hbb, h7⟩; obtain ⟨s3, b3, k3, as4, cs4, rfl, hS, hb, hR3⟩ := mgu_key h7; have hB := bl_call (‹_ ∧ _ ∧ Below w5.heap.size w5 _›.2.2) (hbb.trans (hb.mono hbb.size)); have hfin := hB))
    all_goals
      refine NoPanic.normal ?_
      go_wp2_with fail
      go_meet
      exact ⟨s3, b3, k3, as4, cs4, rfl, rfl, rfl, hR3, hfin⟩
  case rest =>
  obtain ⟨s3, b3, k3, as4, cs4, rfl, rfl, rfl, hR3, hb⟩ := hcut
  have D7 := Lib.hid (D5.out.mv hb)
  clear hb D5 KP x0 x1 VW
  generalize wc = w7 at D7 ⊢
  have HK := Lib.hid (hR3.var (by omega) (by omega) HCX.out)
  clear hR3
  obtain ⟨_, _, _, _, ⟨y0, y1⟩, ⟨x0, x1⟩, _⟩ := D7.out.now
  go_wp2_with fail
  clear y0 y1 x0 x1
  refine (awake4_any w7).mono ?_
  rintro e w8 ⟨rfl, hb⟩
  have D8 := Lib.hid (D7.out.mv hb)
  clear hb D7
  by_cases hk3 : k3 = 0
  case neg =>
    have hne : (k3 == 0) = false := by simpa using hk3
    have HQ := Lib.hid D8.out.now.2.2.2.2.2.2.2.2
    clear HK D8
    go_wp2_with fail
    go_ret
    exact ⟨rfl, by rw [HB0.out]; exact HQ.out⟩
  have hkey := HK.out hk3
  subst hk3
  clear HK
  by_cases hsame : x.head = -1 - v
  case pos =>
    have hse : (x.head == -1 - v) = true := by simpa using hsame
    have hb3 : b3 = true := by rw [hkey, hsame]; simp
    subst hb3
    clear hkey
    have HQ := Lib.hid D8.out.now.2.2.2.2.2.2.2.2
    clear D8 hsame
    go_wp2_with fail
    go_ret
    exact ⟨rfl, by rw [HB0.out]; exact HQ.out⟩
  case neg =>
  have hse : (x.head == -1 - v) = false := by simpa using hsame
  obtain ⟨own, hown⟩ : ∃ own, varsOf (T.subs 1 x) = own := ⟨_, rfl⟩
  have hb3 : b3 = !decide (v ∈ own) := by rw [hkey, ← hown]; simp [hsame]
  have HOWN := Lib.hid hown
  clear hkey hown hsame
  subst hb3
  obtain ⟨_, _, _, _, ⟨y0, y1⟩, ⟨x0, x1⟩, _⟩ := D8.out.now
  go_wp2_with fail
  clear y0 y1 x0 x1
  refine (vars_any x hxs w8.heap.size a c w8 (Nat.le_refl _) HXW.out D8.out.now.2.2.2.2.2.2.1).mono ?_
  rintro e w9 ⟨vo, rfl, hvo, hb⟩
  rw [HOWN.out] at hvo
  obtain ⟨ao, co, rfl, hoI, _⟩ := ints_slice hvo
  have D9 := Lib.hid ((D8.out.mv hb).and (later_is hoI))
  clear hb D8 hvo hoI
  go_wp2_with fail
  refine (in_any v own w9.heap.size ao co w9 (Nat.le_refl _) D9.out.now.1).mono ?_
  rintro e w10 ⟨rfl, hb⟩
  have HQ := Lib.hid (D9.out w10 hb).2.2.2.2.2.2.2.2.2
  clear hb D9
  generalize decide (v ∈ own) = bin
  cases bin
  all_goals
    go_wp2_with fail
    go_ret
    exact ⟨rfl, by rw [HB0.out]; exact HQ.out⟩

end Go.Proofs.Ytcbjnfdhghhgeaa
