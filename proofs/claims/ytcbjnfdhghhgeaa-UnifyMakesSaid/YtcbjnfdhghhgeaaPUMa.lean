/- PUMa: joined of RUa, WUMa, PUMa. -/
import Derived.Test.YtcbjnfdhghhgeaaRSo
import Derived.Test.YtcbjnfdhghhgeaaRAr
import Derived.Test.YtcbjnfdhghhgeaaQ1g
import Derived.Test.YtcbjnfdhghhgeaaQ1i
import Derived.Test.YtcbjnfdhghhgeaaFew4
import Derived.Test.YtcbjnfdhghhgeaaAw4
import Derived.Test.YtcbjnfdhghhgeaaQ1j
/- Contracts of the reference's All and Mgu (layer 4). -/
namespace Go.Proofs.Ytcbjnfdhghhgeaa
set_option linter.unusedVariables false
set_option linter.unusedSimpArgs false
open Go.RowKit

/-- The reference's answer, in memory. -/
def UAPost (x y : T) (w : World) (e : Ending) (w' : World) : Prop :=
  ∃ (s : Sb) (b : Bool) (k : Int) (a : Option Addr) (c : Nat), e = .returned (.tuple #[.slice a s.length c, .bool b, .int .i64 k]) ∧ IsBs w'.heap.size w' s a c ∧ Below w.heap.size w w' ∧ MguR x y s b k
def UlI (x y : T) (w1 : World) (v i : Value) (W : World) : Prop :=
  ∃ (k : Nat) (xs : List Value), k ≤ 1 ∧ i = .int .i64 k ∧ W.ownsRow w1.heap.size 123 4 v k xs ∧ PVals (fun b => b < w1.heap.size) W ([(x, y)].take k) xs ∧ Below w1.heap.size w1 W
def EuI (s : Sb) (w1 : World) (i : Value) (W : World) : Prop := ∃ k : Nat, k ≤ s.length ∧ i = .int .i64 k ∧ errL s = errL (s.drop k) ∧ Below w1.heap.size w1 W

set_option maxRecDepth 100000 in
set_option maxHeartbeats 4000000 in
theorem refAllU_any (x y : T) (h60 : x.size + y.size ≤ 60) (n₀ : Nat) (a : Option Addr) (c : Nat) (a' : Option Addr) (c' : Nat) (w : World) (hn : n₀ ≤ w.heap.size) (hX : IsArgs n₀ w [x] a c) (hY : IsArgs n₀ w [y] a' c') :
    Calls Try.prog 55 #[.slice a 1 c, .slice a' 1 c'] w (UAPost x y w) := by
  have LS := Lib.hid (show ∀ W, Below w.heap.size w W → IsArgs n₀ W [x] a c ∧ IsArgs n₀ W [y] a' c' ∧ n₀ ≤ W.heap.size from fun W hW => ⟨hX.below (hW.mono hn), hY.below (hW.mono hn), Nat.le_trans hn hW.size⟩)
  have hcx := hX.1
  have hcy := hY.1
  have hcx2 := hX.2.1
  have hcy2 := hY.2.1
  unfold maxLen at hcx2 hcy2
  simp only [List.length_singleton] at hcx hcy
  clear hX hY
  go_enter Try.func55, Try.ntmps55
  go_wp2_with fail
  have ls := LS.out w (Below.refl _ _)
  refine (refAllR_any [x] (fun t ht => by rw [show t = x from by simpa using ht]; omega) n₀ a c w ls.2.2 ls.1).mono ?_
  clear ls
  rintro e w1 ⟨rfl, hb⟩
  have HB1 := Lib.hid hb
  clear hb
  cases q1 : badL [x]
  case true =>
    have Q := Lib.hid q1
    clear q1
    go_wp2
    refine bodyPost_ret (v := .tuple #[.slice none 0 0, .bool false, .int .i64 1]) (by simp [results, Try.results55, go_sem]) rfl ?_
    exact ⟨[], false, 1, none, 0, rfl, IsBs.nil _ _ _ (by simp [maxLen]), HB1.out, .inl ⟨.inl (by have := Q.out; simpa [badL] using this), rfl, rfl, rfl⟩⟩
  have Q1 := Lib.hid (show x.check = 0 from by simpa [badL] using q1)
  clear q1
  go_wp2_with fail
  have ls := LS.out w1 HB1.out
  refine (refAllR_any [y] (fun t ht => by rw [show t = y from by simpa using ht]; omega) n₀ a' c' w1 ls.2.2 ls.2.1).mono ?_
  clear ls
  rintro e w2 ⟨rfl, hb⟩
  have HB2 := Lib.hid (HB1.out.trans (hb.mono HB1.out.size))
  clear hb HB1
  cases q2 : badL [y]
  case true =>
    have Q := Lib.hid q2
    clear q2
    go_wp2
    refine bodyPost_ret (v := .tuple #[.slice none 0 0, .bool false, .int .i64 1]) (by simp [results, Try.results55, go_sem]) rfl ?_
    exact ⟨[], false, 1, none, 0, rfl, IsBs.nil _ _ _ (by simp [maxLen]), HB2.out, .inl ⟨.inr (by have := Q.out; simpa [badL] using this), rfl, rfl, rfl⟩⟩
  have Q2 := Lib.hid (show y.check = 0 from by simpa [badL] using q2)
  clear q2
  have hx := (check_ok Q1.out).2.2
  have hy := (check_ok Q2.out).2.2
  obtain ⟨i0, hi, hz0, hz1, hz2⟩ := info_parts infoPrs
  go_wp2
  go_loopw [7, 8] (fun v i wr => UlI x y w2 v i wr) (fun _ i _ => 1 - (intOf i).toNat)
  case atStart => exact ⟨0, [], Nat.zero_le _, rfl, World.ownsRow_nil _ _ _ _, trivial, Below.refl _ _⟩
  case round =>
    obtain ⟨k, xs, hk, rfl, hown, hpv, hBq⟩ := hrel
    have HO := Lib.hid hown
    have HV := Lib.hid hpv
    have HBq := Lib.hid hBq
    have hzq := hBq.size
    clear hown hpv hBq
    by_cases hlt : k < 1
    · obtain rfl : k = 0 := by omega
      have ls := LS.out w2 HB2.out
      obtain ⟨b1, o1, s1, aa1, cc1, rfl, hb1, hs1, hw1, d10, d11, hA1⟩ := ls.1.elem (i := 0) (by simp)
      obtain ⟨b2, o2, s2, aa2, cc2, rfl, hb2', hs2, hw2, d20, d21, hA2⟩ := ls.2.1.elem (i := 0) (by simp)
      simp only [List.getElem?_cons_zero, Option.some.injEq] at hs1 hs2
      subst hs1 hs2
      have hnw := ls.2.2
      have e10 := (HBq.out.cell (p := ⟨b1, _, none⟩) (show b1 < w2.heap.size by omega)).trans d10
      have e11 := (HBq.out.cell (p := ⟨b1, _, none⟩) (show b1 < w2.heap.size by omega)).trans d11
      have e20 := (HBq.out.cell (p := ⟨b2, _, none⟩) (show b2 < w2.heap.size by omega)).trans d20
      have e21 := (HBq.out.cell (p := ⟨b2, _, none⟩) (show b2 < w2.heap.size by omega)).trans d21
      have hb1q : b1 < wr.heap.size := by omega
      have hb2q : b2 < wr.heap.size := by omega
      have HW1 := Lib.hid hw1
      have HW2 := Lib.hid hw2
      have HA1' := Lib.hid (hA1.mono hnw)
      have HA2' := Lib.hid (hA2.mono hnw)
      simp only [Nat.zero_mul, Nat.add_zero] at e10 e11 e20 e21
      clear d10 d11 d20 d21 hw1 hw2 hA1 hA2 ls
      go_wp2
      go_region_law (first
        | (refine step_append_lies _ (by rfl) _ _ _ (by rfl) w2.heap.size 123 i0 _ 4 64 Try.underlying121 hi hz0 hz1 hz2 rfl (by omega) _ 0 xs (by rfl) ((ownsRow_later HO.out ((Below.refl _ _).drew)).alloc _)
            ⟨wr.heap.size, 0, none⟩ 1 1 [.int .i64 x.head, .slice aa1 x.args.length cc1, .int .i64 y.head, .slice aa2 y.args.length cc2] (by rfl) (by rfl) (World.news_of_block (cs := #[.int .i64 x.head, .slice aa1 x.args.length cc1, .int .i64 y.head, .slice aa2 y.args.length cc2]) (t := 123) (fr := (0, 0)) (heap_alloc_new wr.drew _)) (by simp [Value.oneCell'])
            (by omega) (by simp [maxLen]) (by omega) (by simp; omega) (wr.heap.size + 1) (by simp) ?_; intro g5 cap5 w5' hown5 hgrow5 hat5 hlt5))
      all_goals
        go_wp2
        go_roundw
        case rel =>
          have h := ar_step (p := .node 0 [x]) (q := .node 0 [y]) (k := 0) (show 0 < 1 by omega) rfl rfl HW1.out HW2.out HA1'.out HA2'.out HV.out HBq.out HO.out hown5 hgrow5
          exact h
        case measure => simp [intOf]
    · obtain rfl : k = 1 := by omega
      have hv := HV.out
      rw [List.take_of_length_le (by simp)] at hv
      obtain ⟨al, cl, rfl, hIP⟩ := isPs_of_owns (n := wr.heap.size) (l := [(x, y)]) HO.out hv (fun b hb => Nat.lt_of_lt_of_le hb hzq) (fun g hg => (HO.out.lt g hg).2)
      have HIP := Lib.hid hIP
      have HB3 := Lib.hid (HB2.out.trans (HBq.out.mono HB2.out.size))
      clear hv hIP
      simp only [List.length_singleton]
      go_wp2_with fail
      refine (solve_any x y hx hy h60 al cl wr HIP.out).mono ?_
      rintro e w4 ⟨hb4, hres⟩
      have HB4 := Lib.hid (HB3.out.trans (hb4.mono HB3.out.size))
      clear hb4
      rcases hres with ⟨s, F, as_, cs, rfl, hRI, hIs⟩ | ⟨rfl, hno⟩
      · have HRI := Lib.hid hRI
        have HIS := Lib.hid hIs
        have hcs1 := hIs.1
        have hcs2 := hIs.2.1
        unfold maxLen at hcs2
        clear hRI hIs
        go_wp2
        go_loopw [11] (fun i wr => EuI s w4 i wr) (fun i _ => s.length - (intOf i).toNat)
        case atStart => exact ⟨0, Nat.zero_le _, rfl, rfl, Below.refl _ _⟩
        case round =>
          obtain ⟨k, hk, rfl, hek, hBe⟩ := hrel
          have HEK := Lib.hid hek
          have HBe := Lib.hid hBe
          have hze := hBe.size
          clear hek hBe
          by_cases hlt2 : k < s.length
          · have hk0 : (0 : Int) ≤ (k : Int) := Int.natCast_nonneg _
            have hk1 : (k : Int) < (s.length : Int) := by omega
            obtain ⟨b, o, z, u, au, cu, rfl, hbn, hsk, hxw, huw, hc0, hc1, hc2, hAu⟩ := (HIS.out.below HBe.out).elem (i := k) hlt2
            have hbw : b < wr.heap.size := by omega
            have hus : u.size ≤ 300000000000 := by
              have h := HRI.out.of_size hx hy h60 z
              rwa [ofS_mem HRI.out.tri.rise (List.mem_of_getElem? hsk)] at h
            have HST := Lib.hid (errL_step hsk)
            have CK := Lib.hid (refCheck_any u (by omega) wr.heap.size au cu wr (Nat.le_refl _) (hAu.mono hze))
            clear hsk hxw huw hAu
            go_wp2_with fail
            refine CK.out.mono ?_
            rintro e w5 ⟨rfl, hb5⟩
            have HB5 := Lib.hid (HBe.out.trans (hb5.mono hze))
            clear hb5 CK
            by_cases hd : u.check = 0
            · have hst := HST.out
              rw [if_pos hd] at hst
              have HS2 := Lib.hid (HEK.out.trans hst)
              rw [hd]
              clear hst
              go_wp2
              go_roundw
              case rel => exact ⟨k + 1, by omega, by go_num, HS2.out, HB5.out⟩
              case measure => simp [intOf]; omega
            · have hst := HST.out
              rw [if_neg hd] at hst
              have HS2 := Lib.hid (HEK.out.trans hst)
              have HD := Lib.hid hd
              have hde : (u.check == 0) = false := by simpa using hd
              clear hst
              go_wp2
              refine bodyPost_ret (v := .tuple #[.slice none 0 0, .bool false, .int .i64 u.check]) (by simp [results, Try.results55, go_sem]) rfl ?_
              exact ⟨[], false, u.check, none, 0, rfl, IsBs.nil _ _ _ (by simp [maxLen]), HB4.out.trans (HB5.out.mono HB4.out.size), .inr ⟨⟨Q1.out, Q2.out⟩, .inr ⟨s, HRI.out.done, .inl ⟨by rw [HS2.out]; exact HD.out, rfl, rfl, HS2.out.symm⟩⟩⟩⟩
          · obtain rfl : k = s.length := by omega
            have he := HEK.out
            rw [List.drop_of_length_le (Nat.le_refl _)] at he
            have HE := Lib.hid (show errL s = 0 from he)
            clear he
            go_wp2
            refine bodyPost_ret (v := .tuple #[.slice as_ s.length cs, .bool true, .int .i64 0]) (by simp [results, Try.results55, go_sem]) rfl ?_
            exact ⟨s, true, 0, as_, cs, rfl, (HIS.out.below HBe.out).mono hze, HB4.out.trans (HBe.out.mono HB4.out.size), .inr ⟨⟨Q1.out, Q2.out⟩, .inr ⟨s, HRI.out.done, .inr ⟨HE.out, rfl, rfl, rfl⟩⟩⟩⟩
      · have HNO := Lib.hid hno
        clear hno
        go_wp2
        go_loopw [11] (fun i wr => EuI [] w4 i wr) (fun i _ => 0)
        case atStart => exact ⟨0, Nat.zero_le _, rfl, rfl, Below.refl _ _⟩
        case round =>
          obtain ⟨k, hk, rfl, hek, hBe⟩ := hrel
          obtain rfl : k = 0 := by simpa using hk
          have HBe := Lib.hid hBe
          clear hek hBe
          go_wp2
          refine bodyPost_ret (v := .tuple #[.slice none 0 0, .bool false, .int .i64 0]) (by simp [results, Try.results55, go_sem]) rfl ?_
          exact ⟨[], false, 0, none, 0, rfl, IsBs.nil _ _ _ (by simp [maxLen]), HB4.out.trans (HBe.out.mono HB4.out.size), .inr ⟨⟨Q1.out, Q2.out⟩, .inl ⟨HNO.out, rfl, rfl, rfl⟩⟩⟩

end Go.Proofs.Ytcbjnfdhghhgeaa

/- The walk of UnifyMakes. -/
namespace Go.Proofs.Ytcbjnfdhghhgeaa
set_option linter.unusedVariables false
set_option linter.unusedSimpArgs false
open Go.RowKit

/-- One term, and two terms, laid in a block. -/
theorem one_mem {n b : Nat} {x : T} {a : Option Addr} {c : Nat} {W : World} (hb : b < n) (hxw : (Lit.int .i64 x.head).wf = true) (h0 : W.cell? ⟨b, 0, none⟩ = some (.int .i64 x.head)) (h1 : W.cell? ⟨b, 1, none⟩ = some (.slice a x.args.length c)) (hA : IsArgs n W x.args a c) : IsArgs n W [x] (some ⟨b, 0, none⟩) 1 :=
  ⟨by simp, by simp [maxLen], .inr ⟨b, 0, rfl, hb, isT_iff.2 ⟨hxw, h0, _, _, h1, hA⟩, trivial⟩⟩
theorem two_memU {b : Nat} {x y : T} {a a' : Option Addr} {c c' : Nat} {X : World} (hx : Cs b [.int .i64 x.head, .slice a x.args.length c, .int .i64 y.head, .slice a' y.args.length c'] X) (hxw : (Lit.int .i64 x.head).wf = true) (hyw : (Lit.int .i64 y.head).wf = true) (hA : IsArgs X.heap.size X x.args a c) (hB : IsArgs X.heap.size X y.args a' c') : IsArgs X.heap.size X [x, y] (some ⟨b, 0, none⟩) 2 := by
  obtain ⟨hx, cx⟩ := hx
  exact ⟨by simp, by simp [maxLen], .inr ⟨b, 0, rfl, hx, isT_iff.2 ⟨hxw, cx 0 _ rfl, _, _, cx 1 _ rfl, hA⟩, isT_iff.2 ⟨hyw, cx 2 _ rfl, _, _, cx 3 _ rfl, hB⟩, trivial⟩⟩

def Few4J (ts : List T) (w : World) (n i : Value) (wr : World) : Prop := ∃ k m : Nat, k ≤ ts.length ∧ i = .int .i64 k ∧ n = .int .i64 (m : Int) ∧ m ≤ 121 ∧ (m ≤ 60 → T.sizes (ts.take k) ≤ m) ∧ Below w.heap.size w wr
def FewTPost (ts : List T) (w : World) (e : Ending) (w' : World) : Prop := ∃ b : Bool, e = .returned (.bool b) ∧ (b = true → T.sizes ts ≤ 60) ∧ Below w.heap.size w w'

set_option maxRecDepth 100000 in
set_option maxHeartbeats 1000000 in
theorem fewT_any (ts : List T) (n₀ : Nat) (a : Option Addr) (c : Nat) (w : World) (hn : n₀ ≤ w.heap.size) (hA : IsArgs n₀ w ts a c) :
    Calls Try.prog 21 #[.slice a ts.length c] w (FewTPost ts w) := by
  have hl : ts.length ≤ c ∧ c ≤ maxLen := ⟨hA.1, hA.2.1⟩
  unfold maxLen at hl
  obtain ⟨hl1, hl2⟩ := hl
  have HA := Lib.hid hA
  clear hA
  go_enter Try.func21, Try.ntmps21
  go_wp2
  go_loopw [3, 4] (fun n i wr => Few4J ts w n i wr) (fun _ i _ => ts.length - (intOf i).toNat)
  case atStart => exact ⟨0, 0, Nat.zero_le _, rfl, rfl, by omega, by intro _; simp [T.sizes], Below.refl _ _⟩
  case round =>
    obtain ⟨k, m, hk, rfl, rfl, hm, hall, hB⟩ := hrel
    have HB := Lib.hid hB
    have HALL := Lib.hid hall
    have hbz := hB.size
    clear hB hall
    by_cases hlt : k < ts.length
    · have hk0 : (0 : Int) ≤ (k : Int) := Int.natCast_nonneg _
      have hk1 : (k : Int) < (ts.length : Int) := by omega
      by_cases hm60 : m ≤ 60
      · have hmi : (m : Int) ≤ 60 := by omega
        obtain ⟨b, o, s, a', c', rfl, hbn, hs, hswf, hc1, hc2, hA'⟩ := (HA.out.below (HB.out.mono hn)).elem (i := k) hlt
        have hbw : b < wr.heap.size := by omega
        have CN := Lib.hid (count_any s.size s (Nat.le_refl _) 60 n₀ a' c' wr (by omega) (by omega) hA')
        have HS := Lib.hid hs
        clear hs hswf hA'
        go_wp2_with fail
        refine CN.out.mono ?_
        rintro e w2 ⟨rfl, hb2⟩
        have HB2 := Lib.hid (HB.out.trans (hb2.mono hbz))
        obtain ⟨q, hq⟩ : ∃ q, min s.size (60 + 1) = q := ⟨_, rfl⟩
        rw [hq]
        have hq1 : q ≤ 61 := by omega
        have HQ := Lib.hid hq
        clear hb2 hq
        go_wp2
        go_roundw
        case rel =>
          refine ⟨k + 1, m + q, by omega, by go_num, by go_num, by omega, fun hle => ?_, HB2.out⟩
          obtain ⟨hkl, hke⟩ := List.getElem?_eq_some_iff.1 HS.out
          rw [List.take_succ_eq_append_getElem hkl, hke, sizes_append]
          have h1 := HALL.out hm60
          have h2 := HQ.out
          simp only [T.sizes]
          omega
        case measure => simp [intOf]; omega
      · have hmi : ¬ ((m : Int) ≤ 60) := by omega
        go_wp2
        go_ret
        exact ⟨false, by simp <;> omega, by simp, HB.out⟩
    · obtain rfl : k = ts.length := by omega
      go_wp2
      go_ret
      refine ⟨decide ((m : Int) ≤ 60), rfl, fun h => ?_, HB.out⟩
      have hm60 : m ≤ 60 := by have := of_decide_eq_true h; omega
      have h1 := HALL.out hm60
      rw [List.take_length] at h1
      omega

set_option maxRecDepth 100000 in
set_option maxHeartbeats 2000000 in
theorem refMguU_any (x y : T) (h60 : x.size + y.size ≤ 60) (hxw : (Lit.int .i64 x.head).wf = true) (hyw : (Lit.int .i64 y.head).wf = true) (n₀ : Nat) (a : Option Addr) (c : Nat) (a' : Option Addr) (c' : Nat) (w : World) (hn : n₀ ≤ w.heap.size) (hX : IsArgs n₀ w x.args a c) (hY : IsArgs n₀ w y.args a' c') :
    Calls Try.prog 23 #[tm x.head a x.args.length c, tm y.head a' y.args.length c'] w (UAPost x y w) := by
  have LS := Lib.hid (show ∀ W, Below w.heap.size w W → IsArgs n₀ W x.args a c ∧ IsArgs n₀ W y.args a' c' ∧ n₀ ≤ W.heap.size from fun W hW => ⟨hX.below (hW.mono hn), hY.below (hW.mono hn), Nat.le_trans hn hW.size⟩)
  clear hX hY
  go_enter Try.func23, Try.ntmps23
  go_wp2_with fail
  have hsz : ((((w.alloc (.cells #[.int .i64 x.head, .slice a x.args.length c] 25)).alloc (.cells #[.int .i64 y.head, .slice a' y.args.length c'] 25)).alloc (.cells #[.int .i64 x.head, .slice a x.args.length c] 25)).alloc (.cells #[.int .i64 y.head, .slice a' y.args.length c'] 25)).heap.size = w.heap.size + 1 + 1 + 1 + 1 := by simp
  have hb4 : Below w.heap.size w ((((w.alloc (.cells #[.int .i64 x.head, .slice a x.args.length c] 25)).alloc (.cells #[.int .i64 y.head, .slice a' y.args.length c'] 25)).alloc (.cells #[.int .i64 x.head, .slice a x.args.length c] 25)).alloc (.cells #[.int .i64 y.head, .slice a' y.args.length c'] 25)) :=
    ((((Below.refl _ w).alloc (Nat.le_refl _) _).alloc (by simp) _).alloc (by simp; omega) _).alloc (by simp; omega) _
  have k0 : ((((w.alloc (.cells #[.int .i64 x.head, .slice a x.args.length c] 25)).alloc (.cells #[.int .i64 y.head, .slice a' y.args.length c'] 25)).alloc (.cells #[.int .i64 x.head, .slice a x.args.length c] 25)).alloc (.cells #[.int .i64 y.head, .slice a' y.args.length c'] 25)).heap[w.heap.size + 1 + 1]? = some (.cells #[.int .i64 x.head, .slice a x.args.length c] 25) := by
    rw [Below.heap_alloc _ _ _ (by simp)]
    have := heap_alloc_new ((w.alloc (.cells #[.int .i64 x.head, .slice a x.args.length c] 25)).alloc (.cells #[.int .i64 y.head, .slice a' y.args.length c'] 25)) (.cells #[.int .i64 x.head, .slice a x.args.length c] 25)
    simpa using this
  have k1 : ((((w.alloc (.cells #[.int .i64 x.head, .slice a x.args.length c] 25)).alloc (.cells #[.int .i64 y.head, .slice a' y.args.length c'] 25)).alloc (.cells #[.int .i64 x.head, .slice a x.args.length c] 25)).alloc (.cells #[.int .i64 y.head, .slice a' y.args.length c'] 25)).heap[w.heap.size + 1 + 1 + 1]? = some (.cells #[.int .i64 y.head, .slice a' y.args.length c'] 25) := by
    have := heap_alloc_new (((w.alloc (.cells #[.int .i64 x.head, .slice a x.args.length c] 25)).alloc (.cells #[.int .i64 y.head, .slice a' y.args.length c'] 25)).alloc (.cells #[.int .i64 x.head, .slice a x.args.length c] 25)) (.cells #[.int .i64 y.head, .slice a' y.args.length c'] 25)
    simpa using this
  generalize (((w.alloc (.cells #[.int .i64 x.head, .slice a x.args.length c] 25)).alloc (.cells #[.int .i64 y.head, .slice a' y.args.length c'] 25)).alloc (.cells #[.int .i64 x.head, .slice a x.args.length c] 25)).alloc (.cells #[.int .i64 y.head, .slice a' y.args.length c'] 25) = w4 at hsz hb4 k0 k1 ⊢
  have ls := LS.out w4 hb4
  have m0 := cells_of_box k0
  have m1 := cells_of_box k1
  have HB4 := Lib.hid hb4
  refine (refAllU_any x y h60 w4.heap.size _ 1 _ 1 w4 (Nat.le_refl _) (one_mem (by omega) hxw m0.1 m0.2.1 (ls.1.mono ls.2.2)) (one_mem (by omega) hyw m1.1 m1.2.1 (ls.2.1.mono ls.2.2))).mono ?_
  rintro e w5 ⟨s, b, k, a3, c3, rfl, hS, hb5, hR⟩
  have HS := Lib.hid hS
  have HR := Lib.hid hR
  have HB5 := Lib.hid (HB4.out.trans (hb5.mono HB4.out.size))
  clear hS hR hb5 hb4 k0 k1 m0 m1 ls hsz
  go_wp2
  refine bodyPost_ret (v := .tuple #[.slice a3 s.length c3, .bool b, .int .i64 k]) (by simp [results, Try.results23, go_sem]) rfl ?_
  exact ⟨s, b, k, a3, c3, rfl, HS.out, HB5.out, HR.out⟩

set_option maxRecDepth 100000 in
set_option maxHeartbeats 8000000 in
theorem unifyMakes_walk (x y : T) (a : Option Addr) (c : Nat) (a' : Option Addr) (c' : Nat) (w : World) (hxw : (Lit.int .i64 x.head).wf = true) (hyw : (Lit.int .i64 y.head).wf = true) (hA : IsArgs w.heap.size w x.args a c) (hB : IsArgs w.heap.size w y.args a' c') :
    Calls Try.prog 4 #[tm x.head a x.args.length c, tm y.head a' y.args.length c'] w fun e w' => e = .returned (.bool true) ∧ Below w.heap.size w w' := by
  have HXW := Lib.hid hxw
  have HYW := Lib.hid hyw
  have d0 := ((((Later.below (Below.refl _ w)).and (later_args hB)).and (later_args hA)).push (Below.refl _ _) x.head a x.args.length c).push (Below.refl _ _) y.head a' y.args.length c'
  rw [heap_alloc_size] at d0
  have D := Lib.hid d0
  clear hxw hyw hA hB d0
  go_enter Try.func4, Try.ntmps4
  go_wp2_with fail
  have hsz : ((w.alloc (.cells #[.int .i64 x.head, .slice a x.args.length c] 25)).alloc (.cells #[.int .i64 y.head, .slice a' y.args.length c'] 25)).heap.size = w.heap.size + 1 + 1 := by simp
  generalize (w.alloc (.cells #[.int .i64 x.head, .slice a x.args.length c] 25)).alloc (.cells #[.int .i64 y.head, .slice a' y.args.length c'] 25) = wB at D hsz ⊢
  have d1 := D.out.pushC (Below.refl _ _) #[.int .i64 x.head, .slice a x.args.length c, .int .i64 y.head, .slice a' y.args.length c'] 25
  rw [hsz] at d1
  have D1 := Lib.hid d1
  clear d1 hsz D
  generalize wB.alloc (.cells #[.int .i64 x.head, .slice a x.args.length c, .int .i64 y.head, .slice a' y.args.length c'] 25) = w1 at D1 ⊢
  generalize hb0 : w.heap.size = b0 at D1 ⊢
  have HB0 := Lib.hid hb0
  clear hb0
  refine (fewT_any [x, y] w1.heap.size _ 2 w1 (Nat.le_refl _) (two_memU D1.out.now.1 HXW.out HYW.out D1.out.now.2.2.2.1 D1.out.now.2.2.2.2.1)).mono ?_
  rintro e w2 ⟨f1, rfl, hfew, hb⟩
  have D2 := Lib.hid (D1.out.mv hb)
  clear hb D1
  cases f1
  case false =>
    have HQ := Lib.hid D2.out.now.2.2.2.2.2
    clear D2 hfew
    go_wp2
    go_ret
    exact ⟨rfl, by rw [HB0.out]; exact HQ.out⟩
  have h60 : x.size + y.size ≤ 60 := by have := hfew rfl; simpa [T.sizes] using this
  clear hfew
  obtain ⟨_, ⟨y0, y1⟩, ⟨x0, x1⟩, _⟩ := D2.out.now
  go_wp2_with fail
  clear y0 y1 x0 x1
  refine (mgu_full x y (by omega) (by omega) w2.heap.size a c a' c' w2 (Nat.le_refl _) HXW.out HYW.out D2.out.now.2.2.2.1 D2.out.now.2.2.2.2.1).mono ?_
  rintro e w3 ⟨w2', hbb, h3⟩
  obtain ⟨s, b1, k1, as1, cs1, rfl, hS, hb, hR1⟩ := mgu_key h3
  have D3 := Lib.hid (((D2.out.mv hbb).mv hb).and (later_bs hS))
  have R1 := Lib.hid hR1
  clear h3 hS hb hbb D2 hR1
  obtain ⟨_, _, ⟨y0, y1⟩, ⟨x0, x1⟩, _⟩ := D3.out.now
  go_wp2_with fail
  clear y0 y1 x0 x1
  refine (refMguU_any x y h60 HXW.out HYW.out w3.heap.size a c a' c' w3 (Nat.le_refl _) D3.out.now.2.2.2.2.1 D3.out.now.2.2.2.2.2.1).mono ?_
  rintro e w4 ⟨s', b2, k2, as2, cs2, rfl, hS, hb, hR2⟩
  obtain ⟨rfl, rfl, rfl⟩ := R1.out.fn hR2
  have D4 := Lib.hid ((D3.out.mv hb).and (later_bs hS))
  clear hS hb D3 hR2
  go_wp2_with fail
  refine (awake4_any w4).mono ?_
  rintro e w5 ⟨rfl, hb⟩
  have D5 := Lib.hid (D4.out.mv hb)
  clear hb D4
  have HSS := Lib.hid (show ∀ p ∈ s, p.2.size ≤ 1000000000000 from by
    rcases R1.out with ⟨_, rfl, _⟩ | ⟨_, ⟨_, rfl, _⟩ | ⟨m, _, ⟨_, rfl, _⟩ | ⟨he, rfl, _⟩⟩⟩
    · simp
    · simp
    · simp
    · exact errL_small he)
  go_wp2_with fail
  refine (sameS_any s HSS.out w5.heap.size as1 cs1 as2 cs2 w5 (Nat.le_refl _) D5.out.now.2.1 D5.out.now.1).mono ?_
  rintro e w6 ⟨rfl, hb⟩
  have HQ := Lib.hid (D5.out w6 hb).2.2.2.2.2.2.2
  clear hb D5
  have hbeq : (b1 == b1) = true := by simp
  have hkeq : (k1 == k1) = true := by simp
  go_wp2
  go_ret
  exact ⟨by simp, by rw [HB0.out]; exact HQ.out⟩

end Go.Proofs.Ytcbjnfdhghhgeaa

/- Proved: for all arguments that can be read, UnifyMakes returns true, and the arguments read afterwards as before. No condition beyond the row's own. -/
namespace Go.Proofs.Ytcbjnfdhghhgeaa
open Go.ChangeShapes Go.WideShapes Go.ChangeAt Go.RowKit

set_option maxRecDepth 100000 in
theorem unifyMakes_lifted (os : Os) (started : os.Started) (H : Type) (enc : TypeId × Value → H) :
    ReturnsInHanded {} Try.checked os 4 .any (Rows.unifyMakesSpec.pre6 enc Try.prog Try.f4 Rows.unifyMakesRow.domain false) (Rows.unifyMakesSpec.post enc Try.prog Try.f4 false true false false) := by
  refine returnsInHanded_of_change (C := Try.checked) own started (by kernel_rfl) Try.func4
    (ChangeSpec.witness6 (enc := enc) (C := Try.checked) false ⟨#[], #[.agg #[.int .i64 0, .slice none 0 0], .agg #[.int .i64 0, .slice none 0 0]], []⟩ 8 (by kernel_rfl) (by kernel_rfl) (by kernel_rfl) (by kernel_rfl)) ?_
  intro W base args ds gs before hval hW _ _
  have hW' := hW
  obtain ⟨p, q, hA0, hV, rfl, _, _⟩ := hW
  have hA : DataW.TrodAll enc Try.prog W 0 (fun _ => true) true Try.f4.params.toList args.toList ds p := hA0
  have hval' : ∀ (j : Nat) t v, Try.f4.params[j]? = some t → args[j]? = some v → Value.okWide Try.prog W .any base t v := hval
  rw [Try.params4] at hA hval'
  obtain ⟨v0, v1, d0, d1, p0, p1, rfl, rfl, rfl, h0, h1⟩ := trodAll_two hA
  obtain ⟨x0, a0, c0, rfl, hw0, m0⟩ := open_term (hval' 0 _ v0 rfl rfl) h0
  obtain ⟨x1, a1, c1, rfl, hw1, m1⟩ := open_term (hval' 1 _ v1 rfl rfl) h1
  refine (unifyMakes_walk x0 x1 a0 c0 a1 c1 W hw0 hw1 m0 m1).mono fun e W' ⟨he, hb⟩ => ?_
  subst he
  exact ⟨_, rfl, post_law laid Try.underlying4 (by kernel_rfl) rfl (of_decide_eq_true (by kernel_rfl)) (fun gs hg => by subst hg; rfl) hW' hb⟩

theorem unifyMakes_holds : Rows.UnifyMakesSaid :=
  OpenClaim.holds_of_wide 4 Try.f4 rfl rfl rfl rfl rfl rfl rfl ⟨rfl, rfl, rfl, rfl, rfl⟩ rfl rfl rfl rfl rfl (by kernel_rfl) Try.func4 (by kernel_rfl)
    (of_decide_eq_true (by kernel_rfl)) (by unfold Func.isWrapper; first | (rw [if_pos (by decide +kernel)]; kernel_rfl) | (rw [if_neg (by decide +kernel)]; exact ⟨rfl, rfl⟩))
    (fun os started H enc _ => unifyMakes_lifted os started H enc)

end Go.Proofs.Ytcbjnfdhghhgeaa
