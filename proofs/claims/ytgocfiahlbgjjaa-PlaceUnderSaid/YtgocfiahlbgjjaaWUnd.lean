/- The walk of PlaceUnder. -/
import Derived.Test.YtgocfiahlbgjjaaAw2
namespace Go.Proofs.Ytgocfiahlbgjjaa
set_option linter.unusedVariables false
set_option linter.unusedSimpArgs false
open Go.RowKit

theorem apartB_comm (p q : List Int) : apartB q p = apartB p q := by simp only [apartB]; exact Bool.and_comm _ _

set_option maxRecDepth 100000 in
set_option maxHeartbeats 2000000 in
theorem placeUnder_walk (p q o : List Int) (a : Option Addr) (c : Nat) (a' : Option Addr) (c' : Nat) (a2 : Option Addr) (c2 : Nat) (w : World) (hP : IsIs w.heap.size w p a c) (hQ : IsIs w.heap.size w q a' c') (hO : IsIs w.heap.size w o a2 c2) :
    Calls Try.prog 8 #[.slice a p.length c, .slice a' q.length c', .slice a2 o.length c2] w fun e w' => e = .returned (.bool true) ∧ Below w.heap.size w w' := by
  have HP := Lib.hid hP
  have HQQ := Lib.hid hQ
  have HO := Lib.hid hO
  clear hP hQ hO
  have u1 : ∀ W, Below w.heap.size w W → Calls Try.prog 32 #[.slice a p.length c, .slice a' q.length c'] W fun e w' => e = .returned (.bool (underB p q)) ∧ Below W.heap.size W w' := fun W hW =>
    under_any p q w.heap.size a c a' c' W hW.size (HP.out.below hW) (HQQ.out.below hW)
  have r1 : ∀ W, Below w.heap.size w W → Calls Try.prog 33 #[.slice a p.length c, .slice a' q.length c'] W fun e w' => e = .returned (.bool (underB p q)) ∧ Below W.heap.size W w' := fun W hW =>
    refUnder_any p q w.heap.size a c a' c' W hW.size (HP.out.below hW) (HQQ.out.below hW)
  have d1 : ∀ W, Below w.heap.size w W → Calls Try.prog 34 #[.slice a p.length c, .slice a' q.length c'] W fun e w' => e = .returned (.bool (apartB p q)) ∧ Below W.heap.size W w' := fun W hW =>
    apart_any p q w.heap.size a c a' c' W hW.size (HP.out.below hW) (HQQ.out.below hW)
  have e1 : ∀ W, Below w.heap.size w W → Calls Try.prog 35 #[.slice a p.length c, .slice a' q.length c'] W fun e w' => e = .returned (.bool (apartB p q)) ∧ Below W.heap.size W w' := fun W hW =>
    refApart_any p q w.heap.size a c a' c' W hW.size (HP.out.below hW) (HQQ.out.below hW)
  have d2 : ∀ W, Below w.heap.size w W → Calls Try.prog 34 #[.slice a' q.length c', .slice a p.length c] W fun e w' => e = .returned (.bool (apartB q p)) ∧ Below W.heap.size W w' := fun W hW =>
    apart_any q p w.heap.size a' c' a c W hW.size (HQQ.out.below hW) (HP.out.below hW)
  have u2 : ∀ W, Below w.heap.size w W → Calls Try.prog 32 #[.slice a' q.length c', .slice a p.length c] W fun e w' => e = .returned (.bool (underB q p)) ∧ Below W.heap.size W w' := fun W hW =>
    under_any q p w.heap.size a' c' a c W hW.size (HQQ.out.below hW) (HP.out.below hW)
  have u3 : ∀ W, Below w.heap.size w W → Calls Try.prog 32 #[.slice a' q.length c', .slice a2 o.length c2] W fun e w' => e = .returned (.bool (underB q o)) ∧ Below W.heap.size W w' := fun W hW =>
    under_any q o w.heap.size a' c' a2 c2 W hW.size (HQQ.out.below hW) (HO.out.below hW)
  have u4 : ∀ W, Below w.heap.size w W → Calls Try.prog 32 #[.slice a p.length c, .slice a2 o.length c2] W fun e w' => e = .returned (.bool (underB p o)) ∧ Below W.heap.size W w' := fun W hW =>
    under_any p o w.heap.size a c a2 c2 W hW.size (HP.out.below hW) (HO.out.below hW)
  have i1 : ∀ W, Below w.heap.size w W → Calls Try.prog 36 #[.slice a p.length c, .slice a' q.length c'] W fun e w' => e = .returned (.bool (decide (p = q))) ∧ Below W.heap.size W w' := fun W hW =>
    ints_any p q w.heap.size a c a' c' W hW.size (HP.out.below hW) (HQQ.out.below hW)
  rw [apartB_comm] at d2
  have htr : underB p q = true → underB q o = true → underB p o = true := fun h1 h2 => underB_iff.2 ((underB_iff.1 h1).trans (underB_iff.1 h2))
  have hant : underB p q = true → underB q p = true → decide (p = q) = true := fun h1 h2 => decide_eq_true ((underB_iff.1 h1).eq_of_length_le (underB_iff.1 h2).length_le)
  generalize underB p q = b1 at *
  generalize underB q p = b2 at *
  generalize underB q o = b3 at *
  generalize underB p o = b4 at *
  generalize decide (p = q) = b5 at *
  generalize apartB p q = b6 at *
  have TR := Lib.hid htr
  have AN := Lib.hid hant
  have U1 := Lib.hid u1
  have R1 := Lib.hid r1
  have D1 := Lib.hid d1
  have E1 := Lib.hid e1
  have D2 := Lib.hid d2
  have U2 := Lib.hid u2
  have U3 := Lib.hid u3
  have U4 := Lib.hid u4
  have I1 := Lib.hid i1
  clear u1 r1 d1 e1 d2 u2 u3 u4 i1 htr hant
  have hz1 : (b1 != b1) = false := by simp
  have hz2 : (b6 != b6) = false := by simp
  go_enter Try.func8, Try.ntmps8
  go_wp2_with fail
  · go_ret
    exact ⟨rfl, Below.refl _ _⟩
  have HQ := Lib.hid (Below.refl w.heap.size w)
  refine (U1.out w HQ.out).mono ?_
  rintro e w1 ⟨rfl, hb⟩
  have hb := HQ.out.trans (hb.mono HQ.out.size)
  clear HQ
  have HQ := Lib.hid hb
  clear hb
  go_wp2_with fail
  refine (R1.out w1 HQ.out).mono ?_
  rintro e w2 ⟨rfl, hb⟩
  have hb := HQ.out.trans (hb.mono HQ.out.size)
  clear HQ
  have HQ := Lib.hid hb
  clear hb
  go_wp2_with fail
  refine (D1.out w2 HQ.out).mono ?_
  rintro e w3 ⟨rfl, hb⟩
  have hb := HQ.out.trans (hb.mono HQ.out.size)
  clear HQ
  have HQ := Lib.hid hb
  clear hb
  go_wp2_with fail
  refine (E1.out w3 HQ.out).mono ?_
  rintro e w4 ⟨rfl, hb⟩
  have hb := HQ.out.trans (hb.mono HQ.out.size)
  clear HQ
  have HQ := Lib.hid hb
  clear hb
  go_wp2_with fail
  refine (D1.out w4 HQ.out).mono ?_
  rintro e w5 ⟨rfl, hb⟩
  have hb := HQ.out.trans (hb.mono HQ.out.size)
  clear HQ
  have HQ := Lib.hid hb
  clear hb
  go_wp2_with fail
  refine (D2.out w5 HQ.out).mono ?_
  rintro e w6 ⟨rfl, hb⟩
  have hb := HQ.out.trans (hb.mono HQ.out.size)
  clear HQ
  have HQ := Lib.hid hb
  clear hb
  go_wp2_with fail
  refine (awake2_any w6).mono ?_
  rintro e w7 ⟨rfl, hb⟩
  have hb := HQ.out.trans (hb.mono HQ.out.size)
  clear HQ
  have HQ := Lib.hid hb
  clear hb
  go_wp2_with fail
  refine (U1.out w7 HQ.out).mono ?_
  rintro e w8 ⟨rfl, hb⟩
  have hb := HQ.out.trans (hb.mono HQ.out.size)
  clear HQ
  have HQ := Lib.hid hb
  clear hb
  cases b1
  · go_wp2_with fail
    refine (U1.out w8 HQ.out).mono ?_
    rintro e w9 ⟨rfl, hb⟩
    have hb := HQ.out.trans (hb.mono HQ.out.size)
    clear HQ
    have HQ := Lib.hid hb
    clear hb
    go_wp2
    go_ret
    exact ⟨by simp, HQ.out⟩
  · go_wp2_with fail
    refine (U3.out w8 HQ.out).mono ?_
    rintro e w9 ⟨rfl, hb⟩
    have hb := HQ.out.trans (hb.mono HQ.out.size)
    clear HQ
    have HQ := Lib.hid hb
    clear hb
    cases b3
    · go_wp2_with fail
      refine (U1.out w9 HQ.out).mono ?_
      rintro e w10 ⟨rfl, hb⟩
      have hb := HQ.out.trans (hb.mono HQ.out.size)
      clear HQ
      have HQ := Lib.hid hb
      clear hb
      go_wp2_with fail
      refine (U2.out w10 HQ.out).mono ?_
      rintro e w11 ⟨rfl, hb⟩
      have hb := HQ.out.trans (hb.mono HQ.out.size)
      clear HQ
      have HQ := Lib.hid hb
      clear hb
      cases b2
      · go_wp2
        go_ret
        exact ⟨by simp, HQ.out⟩
      · obtain rfl := AN.out (by simp) (by simp)
        go_wp2_with fail
        refine (I1.out w11 HQ.out).mono ?_
        rintro e w12 ⟨rfl, hb⟩
        have hb := HQ.out.trans (hb.mono HQ.out.size)
        clear HQ
        have HQ := Lib.hid hb
        clear hb
        go_wp2
        go_ret
        exact ⟨by simp, HQ.out⟩
    · go_wp2_with fail
      obtain rfl := TR.out (by simp) (by simp)
      refine (U4.out w9 HQ.out).mono ?_
      rintro e w10 ⟨rfl, hb⟩
      have hb := HQ.out.trans (hb.mono HQ.out.size)
      clear HQ
      have HQ := Lib.hid hb
      clear hb
      go_wp2_with fail
      refine (U1.out w10 HQ.out).mono ?_
      rintro e w11 ⟨rfl, hb⟩
      have hb := HQ.out.trans (hb.mono HQ.out.size)
      clear HQ
      have HQ := Lib.hid hb
      clear hb
      go_wp2_with fail
      refine (U2.out w11 HQ.out).mono ?_
      rintro e w12 ⟨rfl, hb⟩
      have hb := HQ.out.trans (hb.mono HQ.out.size)
      clear HQ
      have HQ := Lib.hid hb
      clear hb
      cases b2
      · go_wp2
        go_ret
        exact ⟨by simp, HQ.out⟩
      · obtain rfl := AN.out (by simp) (by simp)
        go_wp2_with fail
        refine (I1.out w12 HQ.out).mono ?_
        rintro e w13 ⟨rfl, hb⟩
        have hb := HQ.out.trans (hb.mono HQ.out.size)
        clear HQ
        have HQ := Lib.hid hb
        clear hb
        go_wp2
        go_ret
        exact ⟨by simp, HQ.out⟩

end Go.Proofs.Ytgocfiahlbgjjaa
