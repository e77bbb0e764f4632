/- Contracts of the document's answer for two terms (layer 8): Stand, Compare. -/
import Derived.Test.YtbfanbaijombaaaQ3e
namespace Go.Proofs.Ytbfanbaijombaaa
set_option linter.unusedVariables false
set_option linter.unusedSimpArgs false
open Go.RowKit

set_option maxRecDepth 100000 in
set_option maxHeartbeats 4000000 in
theorem rStand_any (g : Sg) (hr : rightG g = true) (a b : T) (hoa : OkT g a) (hob : OkT g b) (n₀ : Nat) (ga : Option Addr) (gc : Nat) (pa : Option Addr) (ca : Nat) (pb : Option Addr) (cb : Nat) (w : World) (hn : n₀ ≤ w.heap.size) (hG : IsSg n₀ w g ga gc)
    (haw : (Lit.int .i64 a.head).wf = true) (hbw : (Lit.int .i64 b.head).wf = true) (hA : IsArgs n₀ w a.args pa ca) (hB : IsArgs n₀ w b.args pb cb) :
    Calls Try.prog 27 #[.slice ga g.length gc, tm a.head pa a.args.length ca, tm b.head pb b.args.length cb] w fun e w' => e = .returned (.int .i64 (stand g a b)) ∧ Below w.heap.size w w' := by
  have hsa := (check_ok hoa.1).1
  have hsb := (check_ok hob.1).1
  have d0 := ((((((Later.below (Below.refl _ w)).and (later_sg (hG.mono hn))).and (later_args (hB.mono hn))).and (later_args (hA.mono hn))).push (Below.refl _ _) a.head pa a.args.length ca).push (Below.refl _ _) b.head pb b.args.length cb)
  simp only [heap_alloc_size] at d0
  have D := Lib.hid d0
  have CAB := Lib.hid (fun (W : World) (hG : IsSg W.heap.size W g ga gc) (hA : IsArgs W.heap.size W a.args pa ca) (hB : IsArgs W.heap.size W b.args pb cb) => greater_any g hr a.size a b (Nat.le_refl _) hoa hob W.heap.size ga gc pa ca pb cb W (Nat.le_refl _) hG haw hbw hA hB)
  have CBA := Lib.hid (fun (W : World) (hG : IsSg W.heap.size W g ga gc) (hA : IsArgs W.heap.size W a.args pa ca) (hB : IsArgs W.heap.size W b.args pb cb) => greater_any g hr b.size b a (Nat.le_refl _) hob hoa W.heap.size ga gc pb cb pa ca W (Nat.le_refl _) hG hbw haw hB hA)
  clear hA hB hG d0 haw hbw hoa hob
  go_enter Try.func27, Try.ntmps27
  go_wp2_with fail
  generalize (w.alloc (tmCells a.head pa a.args.length ca)).alloc (tmCells b.head pb b.args.length cb) = w1 at D ⊢
  generalize hb0 : w.heap.size = b0 at D ⊢
  have HB0 := Lib.hid hb0
  clear hb0
  refine (refSame_any a b (by omega) (by omega) w1.heap.size pa ca pb cb w1 (Nat.le_refl _) D.out.now.2.2.1 D.out.now.2.2.2.1).mono ?_
  rintro e w2 ⟨rfl, hb⟩
  have D2 := Lib.hid (D.out.mv hb)
  clear hb D
  by_cases hs : a = b
  · have HE := Lib.hid (stand_zero (g := g).2 hs)
    have HQ := Lib.hid D2.out.now.2.2.2.2.2
    rw [show decide (T.cmp a b = 0) = true from decide_eq_true (T.cmp_zero.2 hs)]
    clear D2 hs
    go_wp2
    go_ret
    exact ⟨by rw [HE.out]; rfl, by rw [HB0.out]; exact HQ.out⟩
  have HNE := Lib.hid hs
  rw [show decide (T.cmp a b = 0) = false from decide_eq_false (fun e => hs (T.cmp_zero.1 e))]
  clear hs
  obtain ⟨⟨y0, y1⟩, ⟨x0, x1⟩, _⟩ := D2.out.now
  go_wp2_with fail
  clear y0 y1 x0 x1
  refine (CAB.out w2 D2.out.now.2.2.2.2.1 D2.out.now.2.2.1 D2.out.now.2.2.2.1).mono ?_
  rintro e w3 ⟨rfl, hb⟩
  have D3 := Lib.hid (D2.out.mv hb)
  clear hb D2
  cases hg : gtK g a b with
  | true =>
    have HE := Lib.hid (stand_more.2 hg)
    have HQ := Lib.hid D3.out.now.2.2.2.2.2
    clear D3 hg
    go_wp2
    go_ret
    exact ⟨by rw [HE.out]; rfl, by rw [HB0.out]; exact HQ.out⟩
  | false =>
  have HG1 := Lib.hid hg
  clear hg
  obtain ⟨⟨y0, y1⟩, ⟨x0, x1⟩, _⟩ := D3.out.now
  go_wp2_with fail
  clear y0 y1 x0 x1
  refine (CBA.out w3 D3.out.now.2.2.2.2.1 D3.out.now.2.2.1 D3.out.now.2.2.2.1).mono ?_
  rintro e w4 ⟨rfl, hb⟩
  have D4 := Lib.hid (D3.out.mv hb)
  have HQ := Lib.hid D4.out.now.2.2.2.2.2
  clear hb D3 D4
  cases hg : gtK g b a with
  | true =>
    have HE := Lib.hid (stand_less.2 hg)
    clear hg
    go_wp2
    go_ret
    exact ⟨by rw [HE.out]; rfl, by rw [HB0.out]; exact HQ.out⟩
  | false =>
    have HE := Lib.hid (show stand g a b = 2 from by
      rcases stand_cases g a b with ⟨_, h⟩ | ⟨_, h⟩ | ⟨_, h⟩ | ⟨h, _⟩
      · exact absurd h HNE.out
      · rw [HG1.out] at h; cases h
      · rw [hg] at h; cases h
      · exact h)
    clear hg
    go_wp2
    go_ret
    exact ⟨by rw [HE.out]; rfl, by rw [HB0.out]; exact HQ.out⟩

theorem errF_two_eq (g : Sg) (a b : T) : errF g [a, b] = if errT g a ≠ 0 then errT g a else errT g b := by
  rw [errF_cons, errF_one]

set_option maxRecDepth 100000 in
set_option maxHeartbeats 4000000 in
theorem rCompare_any (g : Sg) (a b : T) (hza : a.size ≤ 1000000000000) (hzb : b.size ≤ 1000000000000) (n₀ : Nat) (ga : Option Addr) (gc : Nat) (pa : Option Addr) (ca : Nat) (pb : Option Addr) (cb : Nat) (w : World) (hn : n₀ ≤ w.heap.size) (hG : IsSg n₀ w g ga gc)
    (haw : (Lit.int .i64 a.head).wf = true) (hbw : (Lit.int .i64 b.head).wf = true) (hA : IsArgs n₀ w a.args pa ca) (hB : IsArgs n₀ w b.args pb cb) :
    Calls Try.prog 11 #[.slice ga g.length gc, tm a.head pa a.args.length ca, tm b.head pb b.args.length cb] w fun e w' => e = .returned (cmpV g a b) ∧ Below w.heap.size w w' := by
  have HAW := Lib.hid haw
  have HBW := Lib.hid hbw
  have d0 := ((((((Later.below (Below.refl _ w)).and (later_sg (hG.mono hn))).and (later_args (hB.mono hn))).and (later_args (hA.mono hn))).push (Below.refl _ _) a.head pa a.args.length ca).push (Below.refl _ _) b.head pb b.args.length cb)
  simp only [heap_alloc_size] at d0
  have D := Lib.hid d0
  clear hA hB hG d0 haw hbw
  go_enter Try.func11, Try.ntmps11
  go_wp2_with fail
  generalize (w.alloc (tmCells a.head pa a.args.length ca)).alloc (tmCells b.head pb b.args.length cb) = w1 at D ⊢
  generalize hb0 : w.heap.size = b0 at D ⊢
  have HB0 := Lib.hid hb0
  clear hb0
  refine (r7Term_any g a hza w1.heap.size ga gc pa ca w1 (Nat.le_refl _) D.out.now.2.2.2.2.1 D.out.now.2.2.1).mono ?_
  rintro e w2 ⟨rfl, hb⟩
  have D2 := Lib.hid (D.out.mv hb)
  clear hb D
  by_cases ha : errT g a = 0
  case neg =>
    obtain ⟨k, hk⟩ : ∃ k, errT g a = k := ⟨_, rfl⟩
    have HE := Lib.hid (show cmpV g a b = .tuple #[.int .i64 0, .int .i64 k] from by
      have h : errF g [a, b] = k := by rw [errF_two_eq, if_pos ha, hk]
      unfold cmpV; rw [if_neg (by rw [h, ← hk]; exact ha), h])
    rw [hk] at ha ⊢
    have h1 : (k != 0) = true := by simpa using ha
    have HQ := Lib.hid D2.out.now.2.2.2.2.2
    clear ha hk D2
    go_wp2
    refine bodyPost_ret (v := .tuple #[.int .i64 0, .int .i64 k]) (by simp [results, Try.results11, go_sem]) rfl ?_
    exact ⟨by rw [HE.out], by rw [HB0.out]; exact HQ.out⟩
  have HAE := Lib.hid ha
  rw [ha]
  clear ha
  obtain ⟨⟨y0, y1⟩, ⟨x0, x1⟩, _⟩ := D2.out.now
  go_wp2_with fail
  clear y0 y1 x0 x1
  refine (r7Term_any g b hzb w2.heap.size ga gc pb cb w2 (Nat.le_refl _) D2.out.now.2.2.2.2.1 D2.out.now.2.2.2.1).mono ?_
  rintro e w3 ⟨rfl, hb⟩
  have D3 := Lib.hid (D2.out.mv hb)
  clear hb D2
  by_cases hbz : errT g b = 0
  case neg =>
    obtain ⟨k, hk⟩ : ∃ k, errT g b = k := ⟨_, rfl⟩
    have HE := Lib.hid (show cmpV g a b = .tuple #[.int .i64 0, .int .i64 k] from by
      have h : errF g [a, b] = k := by rw [errF_two_eq, if_neg (fun e => e HAE.out), hk]
      unfold cmpV; rw [if_neg (by rw [h, ← hk]; exact hbz), h])
    rw [hk] at hbz ⊢
    have h1 : (k != 0) = true := by simpa using hbz
    have HQ := Lib.hid D3.out.now.2.2.2.2.2
    clear hbz hk D3
    go_wp2
    refine bodyPost_ret (v := .tuple #[.int .i64 0, .int .i64 k]) (by simp [results, Try.results11, go_sem]) rfl ?_
    exact ⟨by rw [HE.out], by rw [HB0.out]; exact HQ.out⟩
  have HE := Lib.hid (show cmpV g a b = .tuple #[.int .i64 (stand g a b), .int .i64 0] from by unfold cmpV; rw [if_pos (errF_pair HAE.out hbz)])
  have CS := Lib.hid (fun (W : World) (hG : IsSg W.heap.size W g ga gc) (hA : IsArgs W.heap.size W a.args pa ca) (hB : IsArgs W.heap.size W b.args pb cb) => rStand_any g (errT_right HAE.out) a b (errT_okT HAE.out) (errT_okT hbz) W.heap.size ga gc pa ca pb cb W (Nat.le_refl _) hG HAW.out HBW.out hA hB)
  rw [hbz]
  clear hbz
  obtain ⟨⟨y0, y1⟩, ⟨x0, x1⟩, _⟩ := D3.out.now
  go_wp2_with fail
  clear y0 y1 x0 x1
  refine (CS.out w3 D3.out.now.2.2.2.2.1 D3.out.now.2.2.1 D3.out.now.2.2.2.1).mono ?_
  rintro e w4 ⟨rfl, hb⟩
  have HQ := Lib.hid (D3.out _ hb).2.2.2.2.2
  clear hb D3 CS
  go_wp2
  refine bodyPost_ret (v := .tuple #[.int .i64 (stand g a b), .int .i64 0]) (by simp [results, Try.results11, go_sem]) rfl ?_
  exact ⟨by rw [HE.out], by rw [HB0.out]; exact HQ.out⟩

end Go.Proofs.Ytbfanbaijombaaa
