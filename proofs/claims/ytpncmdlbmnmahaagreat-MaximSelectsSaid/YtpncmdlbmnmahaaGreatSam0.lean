/- Sam0: joined of Until, Sam0. -/
import Derived.Test.YtpncmdlbmnmahaaGreatQBh
import Derived.Test.YtpncmdlbmnmahaaGreatQBb
import Derived.Test.YtpncmdlbmnmahaaGreatQBc
import Derived.Deep.LoopGhost
import Derived.RegionTactic
import Derived.BigRegion
import Derived.Deep.DeepMust
import Derived.Maps.AppendAt
import Derived.WalkMore
/- Contract of untilDifference. -/
namespace Go.Proofs.YtpncmdlbmnmahaaGreat
set_option linter.unusedVariables false
set_option linter.unusedSimpArgs false
open Go.RowKit
/-- Where the visit of two terms stands at the head of its outer loop. -/
def UntX (H : Nat) (w : World) (R : Option (List (List T × List T))) (N : Nat) (gk : Nat) (v : Value) (W : World) : Prop :=
  ∃ fs vs, W.ownsRow (H + 4) 123 2 v fs.length (prow vs) ∧ PFrs (H + 4) W fs vs ∧ resume fs = R ∧ gk = leftP fs ∧ fs.length + leftP fs ≤ N ∧ H + 5 ≤ W.heap.size ∧ Below H w W
/-- .. and within the two lists xs, ys, the innermost ones: j of their elements are the same. -/
def UntIn (xs ys : List T) (fs : List (List T × List T)) (R : Option (List (List T × List T))) (w1 : World) (stv : Value) (gk : Nat) (st i : Value) (wq : World) : Prop :=
  ∃ j : Nat, j ≤ xs.length ∧ gk = xs.length - j ∧ i = .int .i64 j ∧ st = stv ∧ Below w1.heap.size w1 wq ∧ resume ((xs.drop j, ys.drop j) :: fs) = R
/-- What it hands back. -/
def untPost (a b : T) (w : World) (e : Ending) (w' : World) : Prop :=
  ∃ v fs vs, e = .returned v ∧ w'.ownsRow (w.heap.size + 4) 123 2 v fs.length (prow vs) ∧ PFrs (w.heap.size + 4) w' fs vs ∧ resume [([a], [b])] = (if fs = [] then none else some fs) ∧ Below w.heap.size w w'
theorem UntX.start {x y : T} {a : Option Addr} {c : Nat} {a' : Option Addr} {c' : Nat} {w : World} (hxw : (Lit.int .i64 x.head).wf = true) (hyw : (Lit.int .i64 y.head).wf = true) (hA : IsArgs w.heap.size w x.args a c) (hB : IsArgs w.heap.size w y.args a' c') :
    UntX w.heap.size w (resume [([x], [y])]) (2 * x.size + 2) (2 * x.size + 1) (.slice (some ⟨w.heap.size + 1 + 1 + 1 + 1, 0, none⟩) 1 1)
      (((((w.alloc (tmCells x.head a x.args.length c)).alloc (tmCells y.head a' y.args.length c')).alloc (tmCells x.head a x.args.length c)).alloc (tmCells y.head a' y.args.length c')).alloc (.cells #[.slice (some ⟨w.heap.size + 1 + 1, 0, none⟩) 1 1, .slice (some ⟨w.heap.size + 1 + 1 + 1, 0, none⟩) 1 1] 123)) := by
  obtain ⟨W4, hW4⟩ : ∃ W4, ((((w.alloc (tmCells x.head a x.args.length c)).alloc (tmCells y.head a' y.args.length c')).alloc (tmCells x.head a x.args.length c)).alloc (tmCells y.head a' y.args.length c')) = W4 := ⟨_, rfl⟩
  have hb : Below w.heap.size w W4 := by rw [← hW4]; exact ((((Below.refl _ w).alloc (Nat.le_refl _) _).alloc (by simp) _).alloc (by simp; omega) _).alloc (by simp; omega) _
  have hs : W4.heap.size = w.heap.size + 4 := by rw [← hW4]; simp
  have c1 : W4.cell? ⟨w.heap.size + 1 + 1, 0, none⟩ = some (.int .i64 x.head) := by rw [← hW4]; simp [go_sem]
  have c2 : W4.cell? ⟨w.heap.size + 1 + 1, 1, none⟩ = some (.slice a x.args.length c) := by rw [← hW4]; simp [go_sem]
  have c3 : W4.cell? ⟨w.heap.size + 1 + 1 + 1, 0, none⟩ = some (.int .i64 y.head) := by rw [← hW4]; simp [go_sem]
  have c4 : W4.cell? ⟨w.heap.size + 1 + 1 + 1, 1, none⟩ = some (.slice a' y.args.length c') := by rw [← hW4]; simp [go_sem]
  rw [hW4]
  clear hW4
  have hb5 : Below (w.heap.size + 4) W4 (W4.alloc (.cells #[.slice (some ⟨w.heap.size + 1 + 1, 0, none⟩) 1 1, .slice (some ⟨w.heap.size + 1 + 1 + 1, 0, none⟩) 1 1] 123)) := (Below.refl _ _).alloc (by omega) _
  refine ⟨[([x], [y])], [(.slice (some ⟨w.heap.size + 1 + 1, 0, none⟩) 1 1, .slice (some ⟨w.heap.size + 1 + 1 + 1, 0, none⟩) 1 1)], ?_, ?_, rfl, by simp [leftP, T.sizes], by simp [leftP, T.sizes]; omega, by simp; omega, hb.alloc (by omega) _⟩
  · have := World.ownsRow_lit (base := w.heap.size + 4) (e := 123) (size := 2) W4 #[.slice (some ⟨w.heap.size + 1 + 1, 0, none⟩) 1 1, .slice (some ⟨w.heap.size + 1 + 1 + 1, 0, none⟩) 1 1] 1 (by omega) (by simp [maxLen]) (by simp)
    rw [hs] at this
    simpa [prow] using this
  · refine PFrs.below hb5 ⟨⟨_, _, rfl, Nat.le_refl _, by simp [maxLen], .inr ⟨_, _, rfl, by omega, isT_iff.2 ⟨hxw, c1, a, c, c2, (hA.below hb).mono (by omega)⟩, trivial⟩⟩, ⟨_, _, rfl, Nat.le_refl _, by simp [maxLen], .inr ⟨_, _, rfl, by omega, isT_iff.2 ⟨hyw, c3, a', c', c4, (hB.below hb).mono (by omega)⟩, trivial⟩⟩, rfl, trivial⟩
theorem IsArgs.tail_of {n₁ : Nat} {W : World} {ts : List T} {b o c : Nat} (h : IsArgs n₁ W ts (some ⟨b, o, none⟩) c) {j : Nat} (hj : j < ts.length) : IsArgs n₁ W (ts.drop j) (some ⟨b, o + j * 2, none⟩) (c - j) := by
  have h1 := h.tail (Nat.le_of_lt hj)
  rw [if_neg (by have := h.1; omega)] at h1
  exact h1
theorem unt_stop {x y : T} {w w1 wx : World} {g cap : Nat} {fs : List (List T × List T)} {vs : List (Value × Value)} {xs ys : List T} {b1 o1 b2 o2 c1 c2 j : Nat} {s1 s2 : T}
    (hO : w1.ownsRow (w.heap.size + 4) 123 2 (.slice (some ⟨g, 0, none⟩) (fs.length + 1) cap) (fs.length + 1) (prow ((.slice (some ⟨b1, o1, none⟩) xs.length c1, .slice (some ⟨b2, o2, none⟩) ys.length c2) :: vs))) (hk : fs.length = vs.length)
    (hb : Below w1.heap.size w1 wx) (hF : PFrs (w.heap.size + 4) w1 ((xs, ys) :: fs) ((.slice (some ⟨b1, o1, none⟩) xs.length c1, .slice (some ⟨b2, o2, none⟩) ys.length c2) :: vs)) (h1 : xs[j]? = some s1) (h2 : ys[j]? = some s2) (hd : differ s1 s2)
    (hR : resume ((xs.drop j, ys.drop j) :: fs) = resume [([x], [y])]) (hw : Below w.heap.size w w1) (hsz : w.heap.size + 4 ≤ w1.heap.size) :
    untPost x y w (.returned (.slice (some ⟨g, 0, none⟩) (fs.length + 1) cap)) (((wx.setCell ⟨g, fs.length * 2, none⟩ (.slice (some ⟨b1, o1 + j * 2, none⟩) (xs.length - j) (c1 - j))).setCell ⟨g, fs.length * 2 + 1, none⟩ (.slice (some ⟨b2, o2 + j * 2, none⟩) (ys.length - j) (c2 - j))).drew) := by
  obtain ⟨hO2, hB2⟩ := prow_store hO hk hb (.slice (some ⟨b1, o1 + j * 2, none⟩) (xs.length - j) (c1 - j)) (.slice (some ⟨b2, o2 + j * 2, none⟩) (ys.length - j) (c2 - j))
  have hF2 := hF.below ((hb.mono hsz).trans hB2)
  obtain ⟨⟨a1, d1, e1, hA1⟩, ⟨a2, d2, e2, hA2⟩, hlen, hF3⟩ := hF2
  cases e1
  cases e2
  have hj1 : j < xs.length := (List.getElem?_eq_some_iff.1 h1).1
  have hj2 : j < ys.length := (List.getElem?_eq_some_iff.1 h2).1
  refine ⟨_, (xs.drop j, ys.drop j) :: fs, _, rfl, hO2, ⟨⟨_, _, by simp, hA1.tail_of hj1⟩, ⟨_, _, by simp, hA2.tail_of hj2⟩, by simp; dsimp only at hlen; omega, hF3⟩, ?_, hw.trans ((hb.mono (by omega)).trans (hB2.mono (by omega)))⟩
  rw [← hR, resume_at_differ h1 h2 hd]; simp
theorem info45 : (Tryz.prog.info? 123).map (fun i => (i.zero, i.size, i.bytes)) = some (some (.agg #[.slice none 0 0, .slice none 0 0]), 2, 48) := by kernel_rfl
theorem cell_two_at (w : World) (v u : Value) (t : TypeId) (k : Nat) (hk : k = w.heap.size) : ∀ (j : Nat) (x : Value), [v, u][j]? = some x → (w.alloc (.cells #[v, u] t)).cell? ((⟨k, 0, none⟩ : Addr).add j) = some x := by
  subst hk
  intro j x hx
  match j, hx with
  | 0, hx => simp at hx; subst hx; simp [Addr.add]
  | 1, hx => simp at hx; subst hx; simp [Addr.add]
  | j + 2, hx => simp at hx
theorem tail_nil {n₁ : Nat} {W : World} {ts : List T} {b o c j : Nat} (_h : IsArgs n₁ W ts (some ⟨b, o, none⟩) c) (hj : ts.length ≤ j + 1) : ∃ a d, (Value.slice (some ⟨b, o, none⟩) 0 0) = .slice a (ts.drop (j + 1)).length d ∧ IsArgs n₁ W (ts.drop (j + 1)) a d := by
  have h0 : ts.drop (j + 1) = [] := by rw [List.drop_eq_nil_iff]; omega
  rw [h0]
  exact ⟨_, _, rfl, Nat.le_refl _, by simp [maxLen], .inl rfl⟩
theorem tail_some {n₁ : Nat} {W : World} {ts : List T} {b o c j : Nat} (h : IsArgs n₁ W ts (some ⟨b, o, none⟩) c) (hc : ¬ c = j + 1) (hj : j < ts.length) : ∃ a d, (Value.slice (some ⟨b, o + (j + 1) * 2, none⟩) (ts.length - (j + 1)) (c - (j + 1))) = .slice a (ts.drop (j + 1)).length d ∧ IsArgs n₁ W (ts.drop (j + 1)) a d := by
  have h1 := h.tail (j := j + 1) (by omega)
  rw [if_neg hc] at h1
  exact ⟨_, _, by simp, h1⟩
theorem unt_push {w wr wx wz w2 : World} {R : Option (List (List T × List T))} {N g cap : Nat} {fs : List (List T × List T)} {vs : List (Value × Value)} {xs ys : List T} {u1 u2 v' : Value} {p1 p2 : Option Addr} {q1 q2 j : Nat} {s1 s2 : T} {tmp : Obj}
    (hO : wz.ownsRow (w.heap.size + 4) 123 2 (.slice (some ⟨g, 0, none⟩) (fs.length + 1) cap) (fs.length + 1) (prow ((u1, u2) :: vs))) (_hk : fs.length = vs.length) (hF : PFrs (w.heap.size + 4) wr fs vs)
    (hu1 : ∃ a d, u1 = .slice a (xs.drop (j + 1)).length d ∧ IsArgs (w.heap.size + 4) wr (xs.drop (j + 1)) a d) (hu2 : ∃ a d, u2 = .slice a (ys.drop (j + 1)).length d ∧ IsArgs (w.heap.size + 4) wr (ys.drop (j + 1)) a d)
    (hs1 : IsArgs (w.heap.size + 4) wr s1.args p1 q1) (hs2 : IsArgs (w.heap.size + 4) wr s2.args p2 q2) (hlen : xs.length = ys.length) (hdl : s1.args.length = s2.args.length)
    (hbx : Below wr.heap.size wr wx) (hbz : Below (w.heap.size + 4) wx wz) (h1 : xs[j]? = some s1) (h2 : ys[j]? = some s2) (hnd : ¬ differ s1 s2) (hR : resume ((xs.drop j, ys.drop j) :: fs) = R) (hw : Below w.heap.size w wr) (hsz : w.heap.size + 5 ≤ wz.heap.size) (hszr : w.heap.size + 4 ≤ wr.heap.size)
    (hO3 : w2.ownsRow (w.heap.size + 4) 123 2 v' (fs.length + 1 + 1) (prow ((u1, u2) :: vs) ++ [.slice p1 s1.args.length q1, .slice p2 s2.args.length q2])) (hg3 : (wz.alloc tmp).grownBy w2 (some g)) (hN : fs.length + 1 + 1 + leftP ((s1.args, s2.args) :: (xs.drop (j + 1), ys.drop (j + 1)) :: fs) ≤ N) :
    UntX w.heap.size w R N (leftP ((s1.args, s2.args) :: (xs.drop (j + 1), ys.drop (j + 1)) :: fs)) v' w2 := by
  have hg := (hO.lt g rfl).1
  have hb : Below (w.heap.size + 4) wr w2 := ((hbx.mono hszr).trans hbz).trans (((Below.refl _ wz).alloc (by omega) tmp).grown hg3 (by simp; omega) (fun k e => by cases e; exact hg))
  obtain ⟨a, d, e1, hA1⟩ := hu1
  obtain ⟨a', d', e2, hA2⟩ := hu2
  refine ⟨(s1.args, s2.args) :: (xs.drop (j + 1), ys.drop (j + 1)) :: fs, (.slice p1 s1.args.length q1, .slice p2 s2.args.length q2) :: (u1, u2) :: vs, hO3, ⟨⟨_, _, rfl, hs1.below hb⟩, ⟨_, _, rfl, hs2.below hb⟩, hdl, ⟨_, _, e1, hA1.below hb⟩, ⟨_, _, e2, hA2.below hb⟩, by simp [hlen], hF.below hb⟩, ?_, rfl, hN, ?_, hw.trans (hb.mono (by omega))⟩
  · rw [← hR, resume_at_push h1 h2 hnd]
  · have := hg3.size; simp at this; omega
theorem unt_pop {w w1 wr : World} {R : Option (List (List T × List T))} {N g cap : Nat} {fs : List (List T × List T)} {vs : List (Value × Value)} {xs ys : List T} {v : Value × Value} {j : Nat}
    (hO : w1.ownsRow (w.heap.size + 4) 123 2 (.slice (some ⟨g, 0, none⟩) (fs.length + 1) cap) (fs.length + 1) (prow (v :: vs))) (hk : fs.length = vs.length) (hF : PFrs (w.heap.size + 4) w1 ((xs, ys) :: fs) (v :: vs))
    (hb : Below w1.heap.size w1 wr) (hsz : w.heap.size + 5 ≤ w1.heap.size) (hj : j = xs.length) (hR : resume ((xs.drop j, ys.drop j) :: fs) = R) (hw : Below w.heap.size w w1) (hN : fs.length + leftP fs ≤ N) (hsz4 : w.heap.size + 4 ≤ w1.heap.size) :
    UntX w.heap.size w R N (leftP fs) (.slice (some ⟨g, 0, none⟩) fs.length cap) wr := by
  have hg := hO.lt g rfl
  have hO1 := ownsRow_block hO (hb.block g hg.2)
  rw [prow] at hO1
  refine ⟨fs, vs, ownsRow_pop (by rw [prow_length, hk]) hO1, (hF.below (hb.mono hsz4)).2.2.2, ?_, rfl, hN, Nat.le_trans hsz hb.size, hw.trans (hb.mono (by omega))⟩
  rw [← hR, hj, List.drop_length, resume_pop]
set_option maxRecDepth 100000 in
set_option maxHeartbeats 4000000 in
theorem until_any (x y : T) (hx : x.size ≤ 1000000000000) (n₀ : Nat) (a : Option Addr) (c : Nat) (a' : Option Addr) (c' : Nat) (w : World) (hn : n₀ ≤ w.heap.size) (hxw : (Lit.int .i64 x.head).wf = true) (hyw : (Lit.int .i64 y.head).wf = true) (hA : IsArgs n₀ w x.args a c) (hB : IsArgs n₀ w y.args a' c') :
    Calls Tryz.prog 102 #[tm x.head a x.args.length c, tm y.head a' y.args.length c'] w (untPost x y w) := by
  have HA := Lib.hid (hA.mono hn)
  have HB := Lib.hid (hB.mono hn)
  clear hA hB hn n₀
  go_enter Tryz.func102, Tryz.ntmps102
  go_wp2
  go_step3
  go_wp2
  go_step3
  go_wp2
  go_loopg [5] (2 * x.size + 1) (fun gk v wr => UntX w.heap.size w (resume [([x], [y])]) (2 * x.size + 2) gk v wr)
  case atStart => exact UntX.start hxw hyw HA.out HB.out
  case round =>
    clear HA HB hxw hyw
    obtain ⟨fs, vs, hown, hfrs, hres, hgk, hN, hsz, hbel⟩ := hrel
    have HR := Lib.hid hres
    have HG := Lib.hid hgk
    have HBL := Lib.hid hbel
    have HF := Lib.hid hfrs
    clear hres hgk hbel hfrs
    cases fs with
    | nil =>
      have hu : ∃ a1 c1, u5 = .slice a1 0 c1 := by
        rcases hown.2 with ⟨h, _⟩ | ⟨g, cap, cur, h, _⟩
        · exact ⟨_, _, h⟩
        · exact ⟨_, _, h⟩
      obtain ⟨a1, c1, rfl⟩ := hu
      have HO := Lib.hid hown
      clear hown
      go_wp2
      go_ret
      refine ⟨_, [], vs, rfl, HO.out, HF.out, ?_, HBL.out⟩
      rw [← HR.out]; rfl
    | cons p fs =>
      cases vs with
      | nil => exact HF.out.elim
      | cons v vs =>
        obtain ⟨xs, ys⟩ := p
        obtain ⟨v1, v2⟩ := v
        obtain ⟨⟨a1, c1, e1, hA1⟩, ⟨a2, c2, e2, hA2⟩, hlen, hF2⟩ := HF.out
        dsimp only at e1 e2 hA1 hA2 hlen
        subst e1 e2
        obtain ⟨g, cap, rfl⟩ := ownsRow_succ hown
        have hvl : fs.length = vs.length := hF2.length
        have hcell1 : wr.cell? ⟨g, fs.length * 2, none⟩ = some (.slice a1 xs.length c1) := by
          rw [hown.cellAt _ (by omega), hvl, prow_fst]
        have hcell2 : wr.cell? ⟨g, fs.length * 2 + 1, none⟩ = some (.slice a2 ys.length c2) := by
          rw [hown.cellAt _ (by omega), hvl, prow_snd]
        have hc1 := hA1.2.1
        have hc1' := hA1.1
        unfold maxLen at hc1
        have HO := Lib.hid hown
        have HVL := Lib.hid hvl
        have HLN := Lib.hid hlen
        clear hown hvl hF2 hA1 hA2 hlen
        simp only [List.length_cons] at hN
        go_wp2
        have hbw : Below wr.heap.size wr (wr.alloc (.cells #[.slice a1 xs.length c1, .slice a2 ys.length c2] 123)) := (Below.refl _ _).alloc (Nat.le_refl _) _
        have hbx1 : (wr.alloc (.cells #[.slice a1 xs.length c1, .slice a2 ys.length c2] 123)).cell? ⟨wr.heap.size, 0, none⟩ = some (.slice a1 xs.length c1) := by simp [go_sem]
        have hbx2 : (wr.alloc (.cells #[.slice a1 xs.length c1, .slice a2 ys.length c2] 123)).cell? ⟨wr.heap.size, 1, none⟩ = some (.slice a2 ys.length c2) := by simp [go_sem]
        have hsz1 : (wr.alloc (.cells #[.slice a1 xs.length c1, .slice a2 ys.length c2] 123)).heap.size = wr.heap.size + 1 := by simp
        have hO1 := HO.out.alloc (.cells #[.slice a1 xs.length c1, .slice a2 ys.length c2] 123)
        have hF1 := HF.out.below (hbw.mono (by omega))
        have hL1 := HBL.out.trans (hbw.mono (by omega))
        generalize wr.alloc (.cells #[.slice a1 xs.length c1, .slice a2 ys.length c2] 123) = w1 at hbw hbx1 hbx2 hsz1 hO1 hF1 hL1 ⊢
        generalize wr.heap.size = Bp at hbx1 hbx2 hsz1 hsz ⊢
        clear HBL HF HO hbw hcell1 hcell2
        have HB1 := Lib.hid hbx1
        have HB2 := Lib.hid hbx2
        have HS1 := Lib.hid hsz1
        have HO := Lib.hid hO1
        have HF := Lib.hid hF1
        have HBL := Lib.hid hL1
        clear hbx1 hbx2 hsz1 hO1 hF1 hL1
        go_loopg [5, 30] xs.length (fun gk st i wq => UntIn xs ys fs (resume [([x], [y])]) w1 (.slice (some ⟨g, 0, none⟩) (fs.length + 1) cap) gk st i wq)
        case atStart => exact ⟨0, Nat.zero_le _, rfl, rfl, rfl, Below.refl _ _, by simpa using HR.out⟩
        case round =>
          clear HR
          obtain ⟨j, hj, hgj, rfl, rfl, hbq, hres⟩ := hrel
          have HGJ := Lib.hid hgj
          have HR := Lib.hid hres
          have HBQ := Lib.hid hbq
          clear hgj hres hbq
          have hb1 : wr.cell? ⟨Bp, 0, none⟩ = some (.slice a1 xs.length c1) := (HBQ.out.cell (p := ⟨Bp, 0, none⟩) (by rw [HS1.out]; simp)).trans HB1.out
          have hb2 : wr.cell? ⟨Bp, 1, none⟩ = some (.slice a2 ys.length c2) := (HBQ.out.cell (p := ⟨Bp, 1, none⟩) (by rw [HS1.out]; simp)).trans HB2.out
          have hszq : Bp + 1 ≤ wr.heap.size := by have := HBQ.out.size; rw [HS1.out] at this; exact this
          by_cases hlt : j < xs.length
          · have hFq := HF.out.below (HBQ.out.mono (by rw [HS1.out]; omega))
            obtain ⟨⟨a1', c1', e1, hA1⟩, ⟨a2', c2', e2, hA2⟩, hlen, hF2⟩ := hFq
            dsimp only at e1 e2 hA1 hA2 hlen
            cases e1
            cases e2
            obtain ⟨b1, o1, s1, p1, q1, rfl, hbn1, hs1, hw1, hd1, hd2, hsA1⟩ := hA1.elem hlt
            obtain ⟨b2, o2, s2, p2, q2, rfl, hbn2, hs2, hw2, hd3, hd4, hsA2⟩ := hA2.elem (i := j) (by omega)
            have hlt2 : j < ys.length := by omega
            have hlc2 : ys.length ≤ c2 := hA2.1
            have hlm2 := hA2.2.1
            unfold maxLen at hlm2
            have hgl := HO.out.lt g rfl
            have hfz1 : wr.frozen? ⟨g, fs.length * 2, none⟩ = false := (HBQ.out.frozen (p := ⟨g, fs.length * 2, none⟩) hgl.2).trans (HO.out.frozenAt _)
            have hfz2 : wr.frozen? ⟨g, fs.length * 2 + 1, none⟩ = false := (HBQ.out.frozen (p := ⟨g, fs.length * 2 + 1, none⟩) hgl.2).trans (HO.out.frozenAt _)
            have hgc1 : wr.cell? ⟨g, fs.length * 2, none⟩ = some (.slice (some ⟨b1, o1, none⟩) xs.length c1) := by
              rw [HBQ.out.cell (p := ⟨g, fs.length * 2, none⟩) hgl.2, HO.out.cellAt _ (by omega), HVL.out, prow_fst]
            have hgc2 : wr.cell? ⟨g, fs.length * 2 + 1, none⟩ = some (.slice (some ⟨b2, o2, none⟩) ys.length c2) := by
              rw [HBQ.out.cell (p := ⟨g, fs.length * 2 + 1, none⟩) hgl.2, HO.out.cellAt _ (by omega), HVL.out, prow_snd]
            have hg1 : g < wr.heap.size := World.block_lt_of_cell? wr ⟨g, fs.length * 2, none⟩ hgc1
            have hl1 : b1 < wr.heap.size := World.block_lt_of_cell? wr ⟨b1, o1 + j * 2, none⟩ hd1
            have hl2 : b2 < wr.heap.size := World.block_lt_of_cell? wr ⟨b2, o2 + j * 2, none⟩ hd3
            have hp1 : Bp < wr.heap.size := by omega
            have hg1' : g < wr.heap.size + 1 := by omega
            have hl2' : b2 < wr.heap.size + 1 := by omega
            have hp1' : Bp < wr.heap.size + 1 := by omega
            have HGL := Lib.hid hgl
            clear hgl
            have HS1' := Lib.hid hs1
            have HS2' := Lib.hid hs2
            have HA1 := Lib.hid hA1
            have HA2 := Lib.hid hA2
            have HSA1 := Lib.hid hsA1
            have HSA2 := Lib.hid hsA2
            have HF2 := Lib.hid hF2
            clear hs1 hs2 hA1 hA2 hsA1 hsA2 hF2 hlen hw1 hw2 hbn1 hbn2
            by_cases hdh : s1.head = s2.head
            · have heq1 : (s1.head == s2.head) = true := by simpa using hdh
              have heq2 : (s1.head != s2.head) = false := by simpa using hdh
              have HDH := Lib.hid hdh
              clear hdh
              by_cases hdl : s1.args.length = s2.args.length
              · have HDL := Lib.hid hdl
                have hll1 : ((s1.args.length : Int) == (s2.args.length : Int)) = true := by simp; omega
                have hll2 : ((s1.args.length : Int) != (s2.args.length : Int)) = false := by simp; omega
                have hll3 : (s1.args.length == s2.args.length) = true := by simp; omega
                have hll4 : (s1.args.length != s2.args.length) = false := by simp; omega
                have hnd : ¬ differ s1 s2 := by unfold differ; rw [HDH.out, HDL.out]; simp
                have HND := Lib.hid hnd
                clear hnd hdl
                by_cases hz : s1.args.length = 0
                · have hz0 : decide ((0 : Int) < (s1.args.length : Int)) = false := by rw [decide_eq_false_iff_not]; omega
                  have hz1 : ¬ 0 < s1.args.length := by omega
                  have HZ := Lib.hid hz
                  clear hz
                  go_wp2
                  go_roundg (xs.length - (j + 1))
                  case measure => rw [HGJ.out]; omega
                  case rel =>
                    exact ⟨j + 1, by omega, rfl, by go_num, rfl, HBQ.out.trans ((((Below.refl _ wr).alloc (Nat.le_refl _) _).alloc (by simp) _).mono HBQ.out.size), by rw [← HR.out, resume_at_leaf HS1'.out HS2'.out HND.out HZ.out]⟩
                · have hz1 : 0 < s1.args.length := by omega
                  obtain ⟨i0, hi, hi0, hi1, hi2⟩ := info_parts info45
                  go_wp2
                  have hx1 : ((wr.alloc (tmCells s1.head p1 s1.args.length q1)).alloc (tmCells s2.head p2 s2.args.length q2)).cell? ⟨wr.heap.size, 1, none⟩ = some (.slice p1 s1.args.length q1) := by simp [go_sem]
                  have hx2 : ((wr.alloc (tmCells s1.head p1 s1.args.length q1)).alloc (tmCells s2.head p2 s2.args.length q2)).cell? ⟨wr.heap.size + 1, 1, none⟩ = some (.slice p2 s2.args.length q2) := by simp [go_sem]
                  generalize hwx : (wr.alloc (tmCells s1.head p1 s1.args.length q1)).alloc (tmCells s2.head p2 s2.args.length q2) = wx at hx1 hx2 ⊢
                  have hbx : Below wr.heap.size wr wx := by rw [← hwx]; exact ((Below.refl _ _).alloc (Nat.le_refl _) _).alloc (by simp) _
                  have hsx : wx.heap.size = wr.heap.size + 2 := by rw [← hwx]; simp
                  clear hwx
                  have k1 := (hbx.cell (p := ⟨Bp, 0, none⟩) hp1).trans hb1
                  have k2 := (hbx.cell (p := ⟨Bp, 1, none⟩) hp1).trans hb2
                  have k3 := (hbx.cell (p := ⟨g, fs.length * 2, none⟩) hg1).trans hgc1
                  have k4 := (hbx.cell (p := ⟨g, fs.length * 2 + 1, none⟩) hg1).trans hgc2
                  have k5 := (hbx.frozen (p := ⟨g, fs.length * 2, none⟩) hg1).trans hfz1
                  have k6 := (hbx.frozen (p := ⟨g, fs.length * 2 + 1, none⟩) hg1).trans hfz2
                  have HBX := Lib.hid hbx
                  have HSX := Lib.hid hsx
                  clear hbx hsx
                  by_cases hcj1 : c1 = j + 1
                  · by_cases hcj2 : c2 = j + 1
                    · subst hcj1 hcj2
                      go_region
                      obtain ⟨hO2, hB2⟩ := prow_store HO.out HVL.out (HBQ.out.trans (HBX.out.mono HBQ.out.size)) (.slice (some ⟨b1, o1, none⟩) 0 0) (.slice (some ⟨b2, o2, none⟩) 0 0)
                      have hy1 : (((wx.setCell ⟨g, fs.length * 2, none⟩ (.slice (some ⟨b1, o1, none⟩) 0 0)).setCell ⟨g, fs.length * 2 + 1, none⟩ (.slice (some ⟨b2, o2, none⟩) 0 0)).drew).cell? ⟨wr.heap.size, 1, none⟩ = some (.slice p1 s1.args.length q1) := (World.cell?_of_block (a := ⟨wr.heap.size, 1, none⟩) ((Below.heap_setCell _ _ _ _ (by simp; omega)).trans (Below.heap_setCell _ _ _ _ (by simp; omega)))).trans hx1
                      have hy2 : (((wx.setCell ⟨g, fs.length * 2, none⟩ (.slice (some ⟨b1, o1, none⟩) 0 0)).setCell ⟨g, fs.length * 2 + 1, none⟩ (.slice (some ⟨b2, o2, none⟩) 0 0)).drew).cell? ⟨wr.heap.size + 1, 1, none⟩ = some (.slice p2 s2.args.length q2) := (World.cell?_of_block (a := ⟨wr.heap.size + 1, 1, none⟩) ((Below.heap_setCell _ _ _ _ (by simp; omega)).trans (Below.heap_setCell _ _ _ _ (by simp; omega)))).trans hx2
                      have hsz2 : (((wx.setCell ⟨g, fs.length * 2, none⟩ (.slice (some ⟨b1, o1, none⟩) 0 0)).setCell ⟨g, fs.length * 2 + 1, none⟩ (.slice (some ⟨b2, o2, none⟩) 0 0)).drew).heap.size = wr.heap.size + 2 := by have := HSX.out; simpa using this
                      generalize ((wx.setCell ⟨g, fs.length * 2, none⟩ (.slice (some ⟨b1, o1, none⟩) 0 0)).setCell ⟨g, fs.length * 2 + 1, none⟩ (.slice (some ⟨b2, o2, none⟩) 0 0)).drew = wz at hO2 hB2 hy1 hy2 hsz2 ⊢
                      have HO2 := Lib.hid hO2
                      have HB2' := Lib.hid hB2
                      have HSZ2 := Lib.hid hsz2
                      clear hO2 hB2 hsz2 k1 k2 k3 k4 k5 k6 hx1 hx2
                      go_wp2_with (at_builtin; refine stopHere ?_)
                      refine Lib.hid ?_
                      refine wpList_append_own _ rfl _ _ 119 rfl (w.heap.size + 4) 123 i0 (.agg #[.slice none 0 0, .slice none 0 0]) 2 48 Tryz.underlying119 hi hi0 hi1 hi2 rfl (by decide) (.slice (some ⟨g, 0, none⟩) (fs.length + 1) cap) (fs.length + 1) _ rfl (HO2.out.alloc _) ⟨wz.heap.size, 0, none⟩ 1 1 [.slice p1 s1.args.length q1, .slice p2 s2.args.length q2] rfl rfl (cell_two_at _ _ _ _ _ rfl) (by simp [Value.oneCell']) (by unfold maxLen; omega) (by omega) (by have := HSZ2.out; simp; omega) ?_
                      intro v' w2 hown2 hgrow2 _
                      have HO3 := Lib.hid hown2
                      have HG3 := Lib.hid hgrow2
                      clear hown2 hgrow2
                      go_wp2
                      go_roundg (leftP ((s1.args, s2.args) :: (xs.drop (j + 1), ys.drop (j + 1)) :: fs))
                      case measure => rw [HG.out]; exact leftP_push HS1'.out fs
                      case rel => exact unt_push HO2.out HVL.out HF2.out (tail_nil HA1.out (by omega)) (tail_nil HA2.out (by omega)) HSA1.out HSA2.out HLN.out HDL.out HBX.out HB2'.out HS1'.out HS2'.out HND.out HR.out (HBL.out.trans (HBQ.out.mono (by rw [HS1.out]; omega))) (by have := HSZ2.out; omega) (by omega) HO3.out HG3.out (by have := leftP_push (ys := ys) (zs := s2.args) (bs := ys.drop (j + 1)) HS1'.out fs; omega)
                    · subst hcj1
                      go_region
                      obtain ⟨hO2, hB2⟩ := prow_store HO.out HVL.out (HBQ.out.trans (HBX.out.mono HBQ.out.size)) (.slice (some ⟨b1, o1, none⟩) 0 0) (.slice (some ⟨b2, o2 + (j + 1) * 2, none⟩) (ys.length - (j + 1)) (c2 - (j + 1)))
                      have hy1 : (((wx.setCell ⟨g, fs.length * 2, none⟩ (.slice (some ⟨b1, o1, none⟩) 0 0)).setCell ⟨g, fs.length * 2 + 1, none⟩ (.slice (some ⟨b2, o2 + (j + 1) * 2, none⟩) (ys.length - (j + 1)) (c2 - (j + 1)))).drew).cell? ⟨wr.heap.size, 1, none⟩ = some (.slice p1 s1.args.length q1) := (World.cell?_of_block (a := ⟨wr.heap.size, 1, none⟩) ((Below.heap_setCell _ _ _ _ (by simp; omega)).trans (Below.heap_setCell _ _ _ _ (by simp; omega)))).trans hx1
                      have hy2 : (((wx.setCell ⟨g, fs.length * 2, none⟩ (.slice (some ⟨b1, o1, none⟩) 0 0)).setCell ⟨g, fs.length * 2 + 1, none⟩ (.slice (some ⟨b2, o2 + (j + 1) * 2, none⟩) (ys.length - (j + 1)) (c2 - (j + 1)))).drew).cell? ⟨wr.heap.size + 1, 1, none⟩ = some (.slice p2 s2.args.length q2) := (World.cell?_of_block (a := ⟨wr.heap.size + 1, 1, none⟩) ((Below.heap_setCell _ _ _ _ (by simp; omega)).trans (Below.heap_setCell _ _ _ _ (by simp; omega)))).trans hx2
                      have hsz2 : (((wx.setCell ⟨g, fs.length * 2, none⟩ (.slice (some ⟨b1, o1, none⟩) 0 0)).setCell ⟨g, fs.length * 2 + 1, none⟩ (.slice (some ⟨b2, o2 + (j + 1) * 2, none⟩) (ys.length - (j + 1)) (c2 - (j + 1)))).drew).heap.size = wr.heap.size + 2 := by have := HSX.out; simpa using this
                      generalize ((wx.setCell ⟨g, fs.length * 2, none⟩ (.slice (some ⟨b1, o1, none⟩) 0 0)).setCell ⟨g, fs.length * 2 + 1, none⟩ (.slice (some ⟨b2, o2 + (j + 1) * 2, none⟩) (ys.length - (j + 1)) (c2 - (j + 1)))).drew = wz at hO2 hB2 hy1 hy2 hsz2 ⊢
                      have HO2 := Lib.hid hO2
                      have HB2' := Lib.hid hB2
                      have HSZ2 := Lib.hid hsz2
                      clear hO2 hB2 hsz2 k1 k2 k3 k4 k5 k6 hx1 hx2
                      go_wp2_with (at_builtin; refine stopHere ?_)
                      refine Lib.hid ?_
                      refine wpList_append_own _ rfl _ _ 119 rfl (w.heap.size + 4) 123 i0 (.agg #[.slice none 0 0, .slice none 0 0]) 2 48 Tryz.underlying119 hi hi0 hi1 hi2 rfl (by decide) (.slice (some ⟨g, 0, none⟩) (fs.length + 1) cap) (fs.length + 1) _ rfl (HO2.out.alloc _) ⟨wz.heap.size, 0, none⟩ 1 1 [.slice p1 s1.args.length q1, .slice p2 s2.args.length q2] rfl rfl (cell_two_at _ _ _ _ _ rfl) (by simp [Value.oneCell']) (by unfold maxLen; omega) (by omega) (by have := HSZ2.out; simp; omega) ?_
                      intro v' w2 hown2 hgrow2 _
                      have HO3 := Lib.hid hown2
                      have HG3 := Lib.hid hgrow2
                      clear hown2 hgrow2
                      go_wp2
                      go_roundg (leftP ((s1.args, s2.args) :: (xs.drop (j + 1), ys.drop (j + 1)) :: fs))
                      case measure => rw [HG.out]; exact leftP_push HS1'.out fs
                      case rel => exact unt_push HO2.out HVL.out HF2.out (tail_nil HA1.out (by omega)) (tail_some HA2.out hcj2 (by omega)) HSA1.out HSA2.out HLN.out HDL.out HBX.out HB2'.out HS1'.out HS2'.out HND.out HR.out (HBL.out.trans (HBQ.out.mono (by rw [HS1.out]; omega))) (by have := HSZ2.out; omega) (by omega) HO3.out HG3.out (by have := leftP_push (ys := ys) (zs := s2.args) (bs := ys.drop (j + 1)) HS1'.out fs; omega)
                  · by_cases hcj2 : c2 = j + 1
                    · subst hcj2
                      go_region
                      obtain ⟨hO2, hB2⟩ := prow_store HO.out HVL.out (HBQ.out.trans (HBX.out.mono HBQ.out.size)) (.slice (some ⟨b1, o1 + (j + 1) * 2, none⟩) (xs.length - (j + 1)) (c1 - (j + 1))) (.slice (some ⟨b2, o2, none⟩) 0 0)
                      have hy1 : (((wx.setCell ⟨g, fs.length * 2, none⟩ (.slice (some ⟨b1, o1 + (j + 1) * 2, none⟩) (xs.length - (j + 1)) (c1 - (j + 1)))).setCell ⟨g, fs.length * 2 + 1, none⟩ (.slice (some ⟨b2, o2, none⟩) 0 0)).drew).cell? ⟨wr.heap.size, 1, none⟩ = some (.slice p1 s1.args.length q1) := (World.cell?_of_block (a := ⟨wr.heap.size, 1, none⟩) ((Below.heap_setCell _ _ _ _ (by simp; omega)).trans (Below.heap_setCell _ _ _ _ (by simp; omega)))).trans hx1
                      have hy2 : (((wx.setCell ⟨g, fs.length * 2, none⟩ (.slice (some ⟨b1, o1 + (j + 1) * 2, none⟩) (xs.length - (j + 1)) (c1 - (j + 1)))).setCell ⟨g, fs.length * 2 + 1, none⟩ (.slice (some ⟨b2, o2, none⟩) 0 0)).drew).cell? ⟨wr.heap.size + 1, 1, none⟩ = some (.slice p2 s2.args.length q2) := (World.cell?_of_block (a := ⟨wr.heap.size + 1, 1, none⟩) ((Below.heap_setCell _ _ _ _ (by simp; omega)).trans (Below.heap_setCell _ _ _ _ (by simp; omega)))).trans hx2
                      have hsz2 : (((wx.setCell ⟨g, fs.length * 2, none⟩ (.slice (some ⟨b1, o1 + (j + 1) * 2, none⟩) (xs.length - (j + 1)) (c1 - (j + 1)))).setCell ⟨g, fs.length * 2 + 1, none⟩ (.slice (some ⟨b2, o2, none⟩) 0 0)).drew).heap.size = wr.heap.size + 2 := by have := HSX.out; simpa using this
                      generalize ((wx.setCell ⟨g, fs.length * 2, none⟩ (.slice (some ⟨b1, o1 + (j + 1) * 2, none⟩) (xs.length - (j + 1)) (c1 - (j + 1)))).setCell ⟨g, fs.length * 2 + 1, none⟩ (.slice (some ⟨b2, o2, none⟩) 0 0)).drew = wz at hO2 hB2 hy1 hy2 hsz2 ⊢
                      have HO2 := Lib.hid hO2
                      have HB2' := Lib.hid hB2
                      have HSZ2 := Lib.hid hsz2
                      clear hO2 hB2 hsz2 k1 k2 k3 k4 k5 k6 hx1 hx2
                      go_wp2_with (at_builtin; refine stopHere ?_)
                      refine Lib.hid ?_
                      refine wpList_append_own _ rfl _ _ 119 rfl (w.heap.size + 4) 123 i0 (.agg #[.slice none 0 0, .slice none 0 0]) 2 48 Tryz.underlying119 hi hi0 hi1 hi2 rfl (by decide) (.slice (some ⟨g, 0, none⟩) (fs.length + 1) cap) (fs.length + 1) _ rfl (HO2.out.alloc _) ⟨wz.heap.size, 0, none⟩ 1 1 [.slice p1 s1.args.length q1, .slice p2 s2.args.length q2] rfl rfl (cell_two_at _ _ _ _ _ rfl) (by simp [Value.oneCell']) (by unfold maxLen; omega) (by omega) (by have := HSZ2.out; simp; omega) ?_
                      intro v' w2 hown2 hgrow2 _
                      have HO3 := Lib.hid hown2
                      have HG3 := Lib.hid hgrow2
                      clear hown2 hgrow2
                      go_wp2
                      go_roundg (leftP ((s1.args, s2.args) :: (xs.drop (j + 1), ys.drop (j + 1)) :: fs))
                      case measure => rw [HG.out]; exact leftP_push HS1'.out fs
                      case rel => exact unt_push HO2.out HVL.out HF2.out (tail_some HA1.out hcj1 (by omega)) (tail_nil HA2.out (by omega)) HSA1.out HSA2.out HLN.out HDL.out HBX.out HB2'.out HS1'.out HS2'.out HND.out HR.out (HBL.out.trans (HBQ.out.mono (by rw [HS1.out]; omega))) (by have := HSZ2.out; omega) (by omega) HO3.out HG3.out (by have := leftP_push (ys := ys) (zs := s2.args) (bs := ys.drop (j + 1)) HS1'.out fs; omega)
                    · go_region
                      obtain ⟨hO2, hB2⟩ := prow_store HO.out HVL.out (HBQ.out.trans (HBX.out.mono HBQ.out.size)) (.slice (some ⟨b1, o1 + (j + 1) * 2, none⟩) (xs.length - (j + 1)) (c1 - (j + 1))) (.slice (some ⟨b2, o2 + (j + 1) * 2, none⟩) (ys.length - (j + 1)) (c2 - (j + 1)))
                      have hy1 : (((wx.setCell ⟨g, fs.length * 2, none⟩ (.slice (some ⟨b1, o1 + (j + 1) * 2, none⟩) (xs.length - (j + 1)) (c1 - (j + 1)))).setCell ⟨g, fs.length * 2 + 1, none⟩ (.slice (some ⟨b2, o2 + (j + 1) * 2, none⟩) (ys.length - (j + 1)) (c2 - (j + 1)))).drew).cell? ⟨wr.heap.size, 1, none⟩ = some (.slice p1 s1.args.length q1) := (World.cell?_of_block (a := ⟨wr.heap.size, 1, none⟩) ((Below.heap_setCell _ _ _ _ (by simp; omega)).trans (Below.heap_setCell _ _ _ _ (by simp; omega)))).trans hx1
                      have hy2 : (((wx.setCell ⟨g, fs.length * 2, none⟩ (.slice (some ⟨b1, o1 + (j + 1) * 2, none⟩) (xs.length - (j + 1)) (c1 - (j + 1)))).setCell ⟨g, fs.length * 2 + 1, none⟩ (.slice (some ⟨b2, o2 + (j + 1) * 2, none⟩) (ys.length - (j + 1)) (c2 - (j + 1)))).drew).cell? ⟨wr.heap.size + 1, 1, none⟩ = some (.slice p2 s2.args.length q2) := (World.cell?_of_block (a := ⟨wr.heap.size + 1, 1, none⟩) ((Below.heap_setCell _ _ _ _ (by simp; omega)).trans (Below.heap_setCell _ _ _ _ (by simp; omega)))).trans hx2
                      have hsz2 : (((wx.setCell ⟨g, fs.length * 2, none⟩ (.slice (some ⟨b1, o1 + (j + 1) * 2, none⟩) (xs.length - (j + 1)) (c1 - (j + 1)))).setCell ⟨g, fs.length * 2 + 1, none⟩ (.slice (some ⟨b2, o2 + (j + 1) * 2, none⟩) (ys.length - (j + 1)) (c2 - (j + 1)))).drew).heap.size = wr.heap.size + 2 := by have := HSX.out; simpa using this
                      generalize ((wx.setCell ⟨g, fs.length * 2, none⟩ (.slice (some ⟨b1, o1 + (j + 1) * 2, none⟩) (xs.length - (j + 1)) (c1 - (j + 1)))).setCell ⟨g, fs.length * 2 + 1, none⟩ (.slice (some ⟨b2, o2 + (j + 1) * 2, none⟩) (ys.length - (j + 1)) (c2 - (j + 1)))).drew = wz at hO2 hB2 hy1 hy2 hsz2 ⊢
                      have HO2 := Lib.hid hO2
                      have HB2' := Lib.hid hB2
                      have HSZ2 := Lib.hid hsz2
                      clear hO2 hB2 hsz2 k1 k2 k3 k4 k5 k6 hx1 hx2
                      go_wp2_with (at_builtin; refine stopHere ?_)
                      refine Lib.hid ?_
                      refine wpList_append_own _ rfl _ _ 119 rfl (w.heap.size + 4) 123 i0 (.agg #[.slice none 0 0, .slice none 0 0]) 2 48 Tryz.underlying119 hi hi0 hi1 hi2 rfl (by decide) (.slice (some ⟨g, 0, none⟩) (fs.length + 1) cap) (fs.length + 1) _ rfl (HO2.out.alloc _) ⟨wz.heap.size, 0, none⟩ 1 1 [.slice p1 s1.args.length q1, .slice p2 s2.args.length q2] rfl rfl (cell_two_at _ _ _ _ _ rfl) (by simp [Value.oneCell']) (by unfold maxLen; omega) (by omega) (by have := HSZ2.out; simp; omega) ?_
                      intro v' w2 hown2 hgrow2 _
                      have HO3 := Lib.hid hown2
                      have HG3 := Lib.hid hgrow2
                      clear hown2 hgrow2
                      go_wp2
                      go_roundg (leftP ((s1.args, s2.args) :: (xs.drop (j + 1), ys.drop (j + 1)) :: fs))
                      case measure => rw [HG.out]; exact leftP_push HS1'.out fs
                      case rel => exact unt_push HO2.out HVL.out HF2.out (tail_some HA1.out hcj1 (by omega)) (tail_some HA2.out hcj2 (by omega)) HSA1.out HSA2.out HLN.out HDL.out HBX.out HB2'.out HS1'.out HS2'.out HND.out HR.out (HBL.out.trans (HBQ.out.mono (by rw [HS1.out]; omega))) (by have := HSZ2.out; omega) (by omega) HO3.out HG3.out (by have := leftP_push (ys := ys) (zs := s2.args) (bs := ys.drop (j + 1)) HS1'.out fs; omega)
              · have hll1 : ((s1.args.length : Int) == (s2.args.length : Int)) = false := by simp; omega
                have hll2 : ((s1.args.length : Int) != (s2.args.length : Int)) = true := by simp; omega
                have hll3 : (s1.args.length == s2.args.length) = false := by simp; omega
                have hll4 : (s1.args.length != s2.args.length) = true := by simp; omega
                have hcj1 : ¬ c1 = j := by omega
                have hcj2 : ¬ c2 = j := by omega
                go_wp2
                generalize hwx : (wr.alloc (tmCells s1.head p1 s1.args.length q1)).alloc (tmCells s2.head p2 s2.args.length q2) = wx
                have hbx : Below wr.heap.size wr wx := by rw [← hwx]; exact ((Below.refl _ _).alloc (Nat.le_refl _) _).alloc (by simp) _
                clear hwx
                have k1 := (hbx.cell (p := ⟨Bp, 0, none⟩) hp1).trans hb1
                have k2 := (hbx.cell (p := ⟨Bp, 1, none⟩) hp1).trans hb2
                have k3 := (hbx.cell (p := ⟨g, fs.length * 2, none⟩) hg1).trans hgc1
                have k4 := (hbx.cell (p := ⟨g, fs.length * 2 + 1, none⟩) hg1).trans hgc2
                have k5 := (hbx.frozen (p := ⟨g, fs.length * 2, none⟩) hg1).trans hfz1
                have k6 := (hbx.frozen (p := ⟨g, fs.length * 2 + 1, none⟩) hg1).trans hfz2
                have HBX := Lib.hid hbx
                clear hbx
                go_region
                go_wp2
                rw [Exit.noGoto_ret]
                go_ret
                exact unt_stop HO.out HVL.out (HBQ.out.trans (HBX.out.mono HBQ.out.size)) HF.out HS1'.out HS2'.out (.inr hdl) HR.out HBL.out (by rw [HS1.out]; omega)
            · have hne1 : (s1.head == s2.head) = false := by simpa using hdh
              have hne2 : (s1.head != s2.head) = true := by simpa using hdh
              have hcj1 : ¬ c1 = j := by omega
              have hcj2 : ¬ c2 = j := by omega
              go_wp2
              generalize hwx : (wr.alloc (tmCells s1.head p1 s1.args.length q1)).alloc (tmCells s2.head p2 s2.args.length q2) = wx
              have hbx : Below wr.heap.size wr wx := by rw [← hwx]; exact ((Below.refl _ _).alloc (Nat.le_refl _) _).alloc (by simp) _
              clear hwx
              have k1 := (hbx.cell (p := ⟨Bp, 0, none⟩) hp1).trans hb1
              have k2 := (hbx.cell (p := ⟨Bp, 1, none⟩) hp1).trans hb2
              have k3 := (hbx.cell (p := ⟨g, fs.length * 2, none⟩) hg1).trans hgc1
              have k4 := (hbx.cell (p := ⟨g, fs.length * 2 + 1, none⟩) hg1).trans hgc2
              have k5 := (hbx.frozen (p := ⟨g, fs.length * 2, none⟩) hg1).trans hfz1
              have k6 := (hbx.frozen (p := ⟨g, fs.length * 2 + 1, none⟩) hg1).trans hfz2
              have HBX := Lib.hid hbx
              clear hbx
              go_region
              go_wp2
              rw [Exit.noGoto_ret]
              go_ret
              exact unt_stop HO.out HVL.out (HBQ.out.trans (HBX.out.mono HBQ.out.size)) HF.out HS1'.out HS2'.out (.inl hdh) HR.out HBL.out (by rw [HS1.out]; omega)
          · have hjl : j = xs.length := by omega
            have hcap := ownsRow_cap HO.out
            unfold maxLen at hcap
            obtain ⟨hcap1, hcap2⟩ := hcap
            go_wp2
            go_roundg (leftP fs)
            case measure => rw [HG.out]; simp only [leftP]; omega
            case rel => exact unt_pop HO.out HVL.out HF.out HBQ.out (by rw [HS1.out]; omega) hjl HR.out HBL.out (by simp only [leftP] at hN; omega) (by rw [HS1.out]; omega)
end Go.Proofs.YtpncmdlbmnmahaaGreat
/- Contract of Same. -/
namespace Go.Proofs.YtpncmdlbmnmahaaGreat
set_option linter.unusedVariables false
set_option linter.unusedSimpArgs false
open Go.RowKit
end Go.Proofs.YtpncmdlbmnmahaaGreat
