/- Kbo's greatestFirst: a copy, sorted; the greatest first. -/
import Derived.Test.YtbfanbaijombaaaQ1l
import Derived.Test.YtbfanbaijombaaaComp
import Derived.Test.YtbfanbaijombaaaQ1j
import Derived.Test.YtbfanbaijombaaaQ1c
namespace Go.Proofs.Ytbfanbaijombaaa
set_option linter.unusedVariables false
set_option linter.unusedSimpArgs false
open Go.RowKit

/-- The order by which it sorts. -/
theorem swoT {α : Type} (k : α → T) : Go.Sort.SWO (ltOf fun x y => T.cmp (k y) (k x)) where
  irrefl x := by show decide (T.cmp (k x) (k x) < 0) = false; rw [T.cmp_self]; rfl
  trans x y z h1 h2 := by
    simp only [ltOf, decide_eq_true_eq] at *
    exact T.cmp_trans _ _ _ h2 h1
  ntrans x y z h1 h2 := by
    simp only [ltOf, decide_eq_false_iff_not] at *
    have e1 := T.cmp_neg (k x) (k y)
    have e2 := T.cmp_neg (k y) (k z)
    have e3 := T.cmp_neg (k x) (k z)
    have := T.cmp_le_trans (x := k z) (y := k y) (z := k x)
    intro h
    have h3 := (T.cmp_le_trans (x := k x) (y := k y) (z := k z) (by omega) (by omega)).1
    omega

set_option maxRecDepth 100000 in
theorem gf1_any (t u : T) (ht : t.size ≤ 1000000000000) (hu : u.size ≤ 1000000000000) (n₀ : Nat) (a : Option Addr) (c : Nat) (a' : Option Addr) (c' : Nat) (w : World) (hn : n₀ ≤ w.heap.size) (hwt : (Lit.int .i64 t.head).wf = true) (hwu : (Lit.int .i64 u.head).wf = true) (hA : IsArgs n₀ w t.args a c) (hA' : IsArgs n₀ w u.args a' c') :
    Calls Try.prog 80 #[tm t.head a t.args.length c, tm u.head a' u.args.length c'] w fun e w' => e = .returned (.int .i64 (T.cmp u t)) ∧ Below w.heap.size w w' := by
  have hF : Below w.heap.size w ((w.alloc (tmCells t.head a t.args.length c)).alloc (tmCells u.head a' u.args.length c')) := ((Below.refl _ w).alloc (Nat.le_refl _) _).alloc (by simp) _
  have HC := Lib.hid (compare_any u t hu ht n₀ a' c' a c _ (Nat.le_trans hn hF.size) hwu hwt (hA'.below (hF.mono hn)) (hA.below (hF.mono hn)))
  have HF := Lib.hid hF
  clear hF hA hA'
  go_enter Try.func80, Try.ntmps80
  go_wp2_with fail
  refine HC.out.mono ?_
  rintro e w2 ⟨rfl, hb2⟩
  have HB := Lib.hid (HF.out.trans (hb2.mono HF.out.size))
  clear hb2
  go_wp2
  go_ret
  exact ⟨rfl, HB.out⟩

/-- Sorted, the greatest first. -/
def Desc (us : List T) : Prop := us.Pairwise fun x y => 0 ≤ T.cmp x y
def GfPost (ts : List T) (w : World) (e : Ending) (w' : World) : Prop :=
  ∃ us a c, e = .returned (.slice a us.length c) ∧ us.Perm ts ∧ Desc us ∧ IsArgs w'.heap.size w' us a c ∧ (a = none → c = 0) ∧ Below w.heap.size w w'

set_option maxRecDepth 100000 in
set_option maxHeartbeats 2000000 in
theorem greatestFirst_any (ts : List T) (hts : ts.length ≤ 1000000000000) (hsz : ∀ t ∈ ts, t.size ≤ 1000000000000) (n₀ : Nat) (a : Option Addr) (c : Nat) (w : World) (hn : n₀ ≤ w.heap.size) (hA : IsArgs n₀ w ts a c) :
    Calls Try.prog 55 #[.slice a ts.length c] w (GfPost ts w) := by
  have HC := Lib.hid (cloneN_any ts hts n₀ a c w hn hA)
  have eg := enters_of Try.func80 (by kernel_rfl) rfl
  have HS := Lib.hid (fun (g cap : Nat) (W : World) (hg1 : w.heap.size ≤ g) (hg2 : g < W.heap.size) (hR : IsRow n₀ W ts g 0) (hfr : ∀ j, j < ts.length * 2 → W.frozen? ⟨g, j, none⟩ = false) =>
    sortT_any 80 eg (fun x y => T.cmp y x) swoT ts hts n₀ g cap W (by omega) hg2 hR hfr (fun x y a c a' c' X hx hy hX hxw hyw hxA hyA =>
      gf1_any x y (hsz x hx) (hsz y hy) n₀ a c a' c' X (by have := hX.size; omega) hxw hyw hxA hyA))
  have HZ := Lib.hid (fun (p : Option Addr) (cap : Nat) (W : World) => sortC_zero p cap (.func (.func 80) #[] #[]) W)
  have HAl := Lib.hid hts
  clear hA hts
  go_enter Try.func55, Try.ntmps55
  go_wp2_with fail
  refine HC.out.mono ?_
  rintro e w2 ⟨a2, c2, rfl, ⟨h1, h2, h3⟩, hb2, hnl⟩
  have HB2 := Lib.hid hb2
  have HNL := Lib.hid hnl
  clear hnl
  rcases h3 with h3 | ⟨g, cur, rfl, hg, hh, hcs, hrow⟩
  · subst h3
    have HP := Lib.hid (And.intro h1 h2)
    clear hb2 h1 h2
    go_wp2_with fail
    refine (HZ.out _ _ _).mono ?_
    rintro e w3 ⟨rfl, hw3⟩
    subst hw3
    go_wp2
    go_ret
    exact ⟨[], a2, c2, rfl, List.Perm.refl _, List.Pairwise.nil, ⟨HP.out.1, HP.out.2, .inl rfl⟩, HNL.out, HB2.out⟩
  · have hgl : g < w2.heap.size := (Array.getElem?_eq_some_iff.1 hh).1
    have HS2 := Lib.hid (HS.out g c2 w2 hg hgl hrow (fun j hj => by simp [World.frozen?, hh]))
    have HP := Lib.hid (And.intro h1 h2)
    have HG := Lib.hid hg
    clear hb2 h1 h2 hh hcs hrow hg
    go_wp2_with fail
    refine HS2.out.mono ?_
    rintro e w3 ⟨rfl, us, hp, hd, hr3, hgr⟩
    have HUS := Lib.hid (And.intro hp hd)
    have HR := Lib.hid hr3
    have HGR := Lib.hid hgr
    have HL := Lib.hid hp.length_eq
    clear hp hd hr3 hgr
    go_wp2
    go_ret
    have hb3 : Below w.heap.size w w3 := HB2.out.grown HGR.out HB2.out.size (fun k e => by cases e; exact HG.out)
    refine ⟨us, _, c2, by rw [HL.out]; rfl, HUS.out.1, HUS.out.2, ⟨by rw [HL.out]; exact HP.out.1, HP.out.2, .inr ⟨g, 0, rfl, Nat.lt_of_lt_of_le hgl HGR.out.size, HR.out.mono (Nat.le_trans hn hb3.size)⟩⟩, (fun e => by cases e), hb3⟩

end Go.Proofs.Ytbfanbaijombaaa
