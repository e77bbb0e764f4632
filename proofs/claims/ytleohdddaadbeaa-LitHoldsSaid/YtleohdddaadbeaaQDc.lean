/- QDc: joined of Lap, RRg, REnd, SOf. -/
import Derived.Test.YtleohdddaadbeaaQDa
import Derived.Test.YtleohdddaadbeaaAp0
import Derived.Test.YtleohdddaadbeaaQBm
import Derived.Test.YtleohdddaadbeaaQDb
/- Contract of lit's Apply. -/
namespace Go.Proofs.Ytleohdddaadbeaa
set_option linter.unusedVariables false
set_option linter.unusedSimpArgs false
open Go.RowKit

def apK (s : Sb) (x : LV) : Int := if appE s x.l = 0 then appE s x.r else appE s x.l
def apN (s : Sb) (x : LV) : Bool := if apK s x = 0 then x.n else false
def apL (s : Sb) (x : LV) : T := if apK s x = 0 then appT s x.l else .node 0 []
def apR (s : Sb) (x : LV) : T := if apK s x = 0 then appT s x.r else .node 0 []
theorem ap_bad {s : Sb} {x : LV} {k : Int} (h : apK s x = k) (hk : k ≠ 0) : apN s x = false ∧ apL s x = .node 0 [] ∧ apR s x = .node 0 [] ∧ apK s x = k := by
  subst h
  exact ⟨by unfold apN; rw [if_neg hk], by unfold apL; rw [if_neg hk], by unfold apR; rw [if_neg hk], rfl⟩
theorem ap_ok {s : Sb} {x : LV} (h : apK s x = 0) : apN s x = x.n ∧ apL s x = appT s x.l ∧ apR s x = appT s x.r ∧ apK s x = 0 :=
  ⟨by unfold apN; rw [if_pos h], by unfold apL; rw [if_pos h], by unfold apR; rw [if_pos h], h⟩
theorem appT_small9 (s : Sb) (t : T) : (appT s t).size ≤ 1000000000000 := by
  unfold appT
  by_cases hg : goodA s t = true
  · rw [if_pos hg]
    have := hg
    simp only [goodA, Bool.and_eq_true, decide_eq_true_eq] at this
    have h1 := sub_bound this.1 (check_ok this.2).1
    unfold endT
    by_cases hc : (t.sub (ofS s)).check = 0
    · rw [if_pos hc]; omega
    · rw [if_neg hc]; simp [Z0, T.size, T.sizes]
  · rw [if_neg hg]; simp [Z0, T.size, T.sizes]
theorem ap_size (s : Sb) (x : LV) : (apL s x).size ≤ 1000000000000 ∧ (apR s x).size ≤ 1000000000000 := by
  by_cases h : apK s x = 0
  · obtain ⟨_, h1, h2, _⟩ := ap_ok h
    rw [h1, h2]
    exact ⟨appT_small9 _ _, appT_small9 _ _⟩
  · obtain ⟨_, h1, h2, _⟩ := ap_bad rfl h
    rw [h1, h2]
    exact ⟨by simp [T.size, T.sizes], by simp [T.size, T.sizes]⟩
/-- Terms that don't reach a block: they last, whatever becomes of it. -/
def Kne (b0 : Nat) (u : World) (ts : List T) (a : Option Addr) (c : Nat) : Prop := ∀ X : World, u.heap.size ≤ X.heap.size → (∀ b, b ≠ b0 → b < u.heap.size → X.heap[b]? = u.heap[b]?) → IsArgs X.heap.size X ts a c
theorem kne_of {n₀ m b0 : Nat} {u : World} {ts : List T} {a : Option Addr} {c : Nat} (h : IsArgsp (fun b => (b < n₀ ∨ m ≤ b) ∧ b < u.heap.size) u ts a c) (h1 : n₀ ≤ b0) (h2 : b0 < m) : Kne b0 u ts a c := fun X hs hb =>
  (h.keep (ok' := fun b => b < X.heap.size) (fun b hk => hb b (by have := hk.1; omega) hk.2) (fun b hk => Nat.lt_of_lt_of_le hk.2 hs)).toArgs (fun _ h => h)
theorem Kne.mv {b0 : Nat} {u v : World} {ts : List T} {a : Option Addr} {c : Nat} (h : Kne b0 u ts a c) (hb : Below u.heap.size u v) : Kne b0 v ts a c := fun X hs hx =>
  h X (Nat.le_trans hb.size hs) fun b h1 h2 => (hx b h1 (Nat.lt_of_lt_of_le h2 hb.size)).trans (hb.block b h2)
theorem Kne.sets {b : Nat} {u : World} {ts : List T} {a : Option Addr} {c : Nat} (h : Kne b u ts a c) (v0 v1 v2 v3 v4 : Value) :
    IsArgs (((((u.setCell ⟨b, 0, none⟩ v0).setCell ⟨b, 1, none⟩ v1).setCell ⟨b, 2, none⟩ v2).setCell ⟨b, 3, none⟩ v3).setCell ⟨b, 4, none⟩ v4).heap.size (((((u.setCell ⟨b, 0, none⟩ v0).setCell ⟨b, 1, none⟩ v1).setCell ⟨b, 2, none⟩ v2).setCell ⟨b, 3, none⟩ v3).setCell ⟨b, 4, none⟩ v4) ts a c :=
  h _ (by simp) fun k hne h2 => by
    rw [Below.heap_setCell _ _ _ _ hne, Below.heap_setCell _ _ _ _ hne, Below.heap_setCell _ _ _ _ hne, Below.heap_setCell _ _ _ _ hne, Below.heap_setCell _ _ _ _ hne]

set_option maxRecDepth 100000 in
set_option maxHeartbeats 8000000 in
theorem litApply_any (s : Sb) (hsz : ∀ x ∈ s, x.2.size ≤ 1000000000000) (x : LV) (hx : x.sz) (n₀ : Nat) (a : Option Addr) (c : Nat) (w : World) (hn : n₀ ≤ w.heap.size) (hS : IsBs n₀ w s a c) (hX : IsLv n₀ w x) :
    Calls Try.prog 10 #[.slice a s.length c, x.v] w (LePost (apN s x) (apL s x) (apR s x) (apK s x) w) := by
  have hS0 := hS.mono hn
  have hX0 := hX.mono hn
  have C1 := Lib.hid (fun (W : World) (hW : Below w.heap.size w W) => applyF_any s hsz x.l hx.1 w.heap.size a c x.pa x.ca W hW.size (hS0.below hW) hX0.lw (hX0.below hW).la)
  have C2 := Lib.hid (fun (W : World) (hW : Below w.heap.size w W) => applyF_any s hsz x.r hx.2 w.heap.size a c x.pb x.cb W hW.size (hS0.below hW) hX0.rw (hX0.below hW).ra)
  have d0 := ((Later.below (Below.refl _ w)).pushB (Below.refl _ _) x).pushB (Below.refl _ _) LV.zero
  simp only [heap_alloc_size] at d0
  have D := Lib.hid d0
  clear d0 hS hX hS0 hX0 hsz hx
  have hs1 : ((w.alloc x.obj).alloc LV.zero.obj).heap.size = w.heap.size + 2 := by simp
  obtain ⟨w1, hw1⟩ : ∃ w1, (w.alloc x.obj).alloc LV.zero.obj = w1 := ⟨_, rfl⟩
  rw [hw1] at D hs1
  have hw1' : (w.alloc x.obj).alloc (.cells #[.bool false, .int .i64 0, .slice none 0 0, .int .i64 0, .slice none 0 0] 27) = w1 := hw1
  have HW1 := Lib.hid hw1'
  clear hw1 hw1'
  go_enter Try.func10, Try.ntmps10
  go_wp2_with fail
  rw [HW1.out]
  clear HW1
  refine (C1.out w1 D.out.now.2.2).mono ?_
  rintro e w2 ⟨a2, c2, rfl, hwf2, hA2, hb2⟩
  have hs2 := hb2.size
  obtain ⟨w3, hw3⟩ : ∃ w3, w2.alloc (tmCells (appT s x.l).head a2 (appT s x.l).args.length c2) = w3 := ⟨_, rfl⟩
  have hb3 : Below w2.heap.size w2 w3 := by rw [← hw3]; exact (Below.refl _ _).alloc (Nat.le_refl _) _
  have hs3 := hb3.size
  have d3 := (D.out.mv hb2).push (Below.refl _ _) (appT s x.l).head a2 (appT s x.l).args.length c2
  rw [hw3] at d3
  have D3 := Lib.hid d3
  have KA := Lib.hid ((kne_of (b0 := w.heap.size + 1) hA2 (by omega) (by omega)).mv hb3)
  have HWF2 := Lib.hid hwf2
  clear d3 hb2 hb3 hA2 hwf2 D C1
  by_cases h1 : appE s x.l = 0
  case neg =>
    obtain ⟨k, hk⟩ : ∃ k, appE s x.l = k := ⟨_, rfl⟩
    have HE := Lib.hid (ap_bad (s := s) (x := x) (k := k) (by unfold apK; rw [if_neg h1]; exact hk) (by rw [← hk]; exact h1))
    have HQ := Lib.hid D3.out.now.2.2.2
    have hz := D3.out.now.2.1
    obtain ⟨z0, z1, z2, z3, z4⟩ := hz.lc
    obtain ⟨q0, q1, q2, q3, q4⟩ := hz.lf
    simp only [LV.zero, T.head, T.args, List.length_nil] at z0 z1 z2 z3 z4
    clear hz
    rw [hk] at h1 ⊢
    have h2 : (k != 0) = true := by simpa using h1
    clear h1 hk D3 KA
    go_wp2
    refine bodyPost_ret (v := .tuple #[LV.zero.v, .int .i64 k]) (by simp [results, Try.results10, go_sem, z0, z1, z2, z3, z4, LV.zero, T.head, T.args]) rfl ?_
    exact ⟨LV.zero, by rw [HE.out.2.2.2], HE.out.1.symm, HE.out.2.1.symm, HE.out.2.2.1.symm, lv_zero _ _, bl_sets HQ.out (by omega) _ _ _ _ _⟩
  have H1 := Lib.hid h1
  rw [h1]
  clear h1
  obtain ⟨x0, x1, x2, x3, x4⟩ := D3.out.now.2.2.1.lc
  go_wp2_with fail
  clear x0 x1 x2 x3 x4
  refine (C2.out w3 D3.out.now.2.2.2).mono ?_
  rintro e w4 ⟨a4, c4, rfl, hwf4, hA4, hb4⟩
  have hs4 := hb4.size
  obtain ⟨w5, hw5⟩ : ∃ w5, w4.alloc (tmCells (appT s x.r).head a4 (appT s x.r).args.length c4) = w5 := ⟨_, rfl⟩
  have hb5 : Below w4.heap.size w4 w5 := by rw [← hw5]; exact (Below.refl _ _).alloc (Nat.le_refl _) _
  have hs5 := hb5.size
  have d5 := (D3.out.mv hb4).push (Below.refl _ _) (appT s x.r).head a4 (appT s x.r).args.length c4
  rw [hw5] at d5
  have D5 := Lib.hid d5
  have KB := Lib.hid ((kne_of (b0 := w.heap.size + 1) hA4 (by omega) (by omega)).mv hb5)
  have KA5 := Lib.hid ((KA.out.mv hb4).mv hb5)
  have HWF4 := Lib.hid hwf4
  clear d5 hb4 hb5 hA4 hwf4 D3 C2 KA hw3
  have hz := D5.out.now.2.2.1
  have hxx := D5.out.now.2.2.2.1
  obtain ⟨z0, z1, z2, z3, z4⟩ := hz.lc
  obtain ⟨q0, q1, q2, q3, q4⟩ := hz.lf
  simp only [LV.zero, T.head, T.args, List.length_nil] at z0 z1 z2 z3 z4
  have HQ := Lib.hid D5.out.now.2.2.2.2
  by_cases h2 : appE s x.r = 0
  case neg =>
    obtain ⟨k, hk⟩ : ∃ k, appE s x.r = k := ⟨_, rfl⟩
    have HE := Lib.hid (ap_bad (s := s) (x := x) (k := k) (by unfold apK; rw [if_pos H1.out]; exact hk) (by rw [← hk]; exact h2))
    clear hz hxx
    rw [hk] at h2 ⊢
    have h3 : (k != 0) = true := by simpa using h2
    clear h2 hk D5 KB KA5
    go_wp2
    refine bodyPost_ret (v := .tuple #[LV.zero.v, .int .i64 k]) (by simp [results, Try.results10, go_sem, z0, z1, z2, z3, z4, LV.zero, T.head, T.args]) rfl ?_
    exact ⟨LV.zero, by rw [HE.out.2.2.2], HE.out.1.symm, HE.out.2.1.symm, HE.out.2.2.1.symm, lv_zero _ _, bl_sets HQ.out (by omega) _ _ _ _ _⟩
  have HE := Lib.hid (ap_ok (s := s) (x := x) (by unfold apK; rw [if_pos H1.out]; exact h2))
  rw [h2]
  clear h2
  obtain ⟨x0, _, _, _, _⟩ := hxx.lc
  obtain ⟨⟨u0, u1⟩, ⟨v0, v1⟩, _⟩ := D5.out.now
  clear hz hxx D5
  generalize appT s x.l = y1 at HE HWF2 KA5 v0 v1 ⊢
  generalize appT s x.r = y2 at HE HWF4 KB u0 u1 hw5 ⊢
  go_wp2
  refine bodyPost_ret (v := .tuple #[(LV.mk x.n y1 y2 a2 c2 a4 c4).v, .int .i64 0]) (by simp [results, Try.results10, go_sem, z0, z1, z2, z3, z4]) rfl ?_
  exact ⟨LV.mk x.n y1 y2 a2 c2 a4 c4, by rw [HE.out.2.2.2], HE.out.1.symm, HE.out.2.1.symm, HE.out.2.2.1.symm, ⟨HWF2.out, HWF4.out, KA5.out.sets _ _ _ _ _, KB.out.sets _ _ _ _ _⟩, bl_sets HQ.out (by omega) _ _ _ _ _⟩

end Go.Proofs.Ytleohdddaadbeaa

/- Contract of the reference's Right (split off RCk). -/
namespace Go.Proofs.Ytleohdddaadbeaa
set_option linter.unusedVariables false
set_option linter.unusedSimpArgs false
open Go.RowKit

theorem refRight_any (t : T) (ht : t.size ≤ 1000000000000) (n₀ : Nat) (a : Option Addr) (c : Nat) (w : World) (hn : n₀ ≤ w.heap.size) (hA : IsArgs n₀ w t.args a c) :
    Calls Try.prog 61 #[tm t.head a t.args.length c] w fun e w' => e = .returned (.bool (decide (t.check = 0))) ∧ Below w.heap.size w w' := by
  have hb1 := (Below.refl w.heap.size w).alloc (Nat.le_refl _) (tmCells t.head a t.args.length c)
  have HC := Lib.hid (refCheck_any t ht n₀ a c (w.alloc (tmCells t.head a t.args.length c)) (by simp; omega) (hA.below (hb1.mono hn)))
  have HB := Lib.hid hb1
  clear hb1 hA
  go_enter Try.func61, Try.ntmps61
  go_wp2_with fail
  refine HC.out.mono ?_
  rintro e w2 ⟨rfl, hb2⟩
  have HB2 := Lib.hid (HB.out.trans (hb2.mono HB.out.size))
  clear hb2
  go_wp2
  go_ret
  refine ⟨?_, HB2.out⟩
  rfl

end Go.Proofs.Ytleohdddaadbeaa

/- Contract of the reference's end. -/
namespace Go.Proofs.Ytleohdddaadbeaa
set_option linter.unusedVariables false
set_option linter.unusedSimpArgs false
open Go.RowKit

set_option maxRecDepth 100000 in
set_option maxHeartbeats 1000000 in
theorem refEnd_any (x : T) (hx : x.size ≤ 1000000000000) (ok : Nat → Prop) (a : Option Addr) (c : Nat) (w : World) (hok : ∀ b, ok b → b < w.heap.size) (hwf : (Lit.int .i64 x.head).wf = true) (hA : IsArgsp ok w x.args a c) :
    Calls Try.prog 62 #[tm x.head a x.args.length c] w (TEPostp ok (endT x) x.check w) := by
  obtain ⟨w2, hw2⟩ : ∃ w2, (w.alloc (tmCells x.head a x.args.length c)).alloc (tmCells 0 none 0 0) = w2 := ⟨_, rfl⟩
  have hB2 : Below w.heap.size w w2 := by rw [← hw2]; exact ((Below.refl _ w).alloc (Nat.le_refl _) _).alloc (by simp) _
  have hs2 : w2.heap.size = w.heap.size + 2 := by rw [← hw2]; simp
  have L2 := Lib.hid (show ∀ W, Below w2.heap.size w2 W → W.cell? ⟨w.heap.size, 0, none⟩ = some (.int .i64 x.head) ∧ W.cell? ⟨w.heap.size, 1, none⟩ = some (.slice a x.args.length c) ∧ W.cell? ⟨w.heap.size + 1, 0, none⟩ = some (.int .i64 0) ∧ W.cell? ⟨w.heap.size + 1, 1, none⟩ = some (.slice none 0 0) ∧ W.frozen? ⟨w.heap.size + 1, 0, none⟩ = false ∧ W.frozen? ⟨w.heap.size + 1, 1, none⟩ = false from fun W hW =>
    ⟨(hW.cell (p := ⟨w.heap.size, 0, none⟩) (by simp; omega)).trans (by rw [← hw2]; simp [go_sem]), (hW.cell (p := ⟨w.heap.size, 1, none⟩) (by simp; omega)).trans (by rw [← hw2]; simp [go_sem]), (hW.cell (p := ⟨w.heap.size + 1, 0, none⟩) (by simp; omega)).trans (by rw [← hw2]; simp [go_sem]), (hW.cell (p := ⟨w.heap.size + 1, 1, none⟩) (by simp; omega)).trans (by rw [← hw2]; simp [go_sem]), (hW.frozen (p := ⟨w.heap.size + 1, 0, none⟩) (by simp; omega)).trans (by rw [← hw2]; simp [go_sem]), (hW.frozen (p := ⟨w.heap.size + 1, 1, none⟩) (by simp; omega)).trans (by rw [← hw2]; simp [go_sem])⟩)
  have CC := Lib.hid (refCheck_any x hx w.heap.size a c w2 (by omega) ((hA.toArgs hok).below hB2))
  have HW := Lib.hid hwf
  have HA := Lib.hid hA
  have HB2 := Lib.hid hB2
  clear hwf hA hB2 hs2
  obtain ⟨c0, c1, _, _, _, _⟩ := L2.out w2 (Below.refl _ _)
  go_enter Try.func62, Try.ntmps62
  go_wp2_with fail
  refine CC.out.mono ?_
  rintro e w3 ⟨rfl, hb3⟩
  clear c0 c1 hw2
  obtain ⟨c0, c1, r0, r1, rf0, rf1⟩ := L2.out w3 hb3
  have HB3 := Lib.hid (HB2.out.trans (hb3.mono HB2.out.size))
  have hz3 : w.heap.size ≤ w3.heap.size := HB3.out.size
  clear hb3
  have HE := Lib.hid (show endT x = if x.check = 0 then x else Z0 from rfl)
  by_cases q : x.check = 0
  · rw [q]
    have he : endT x = x := by unfold endT; rw [if_pos q]
    go_wp2
    refine bodyPost_ret (v := .tuple #[tm x.head a x.args.length c, .int .i64 0]) (by simp [results, Try.results62, go_sem, r0, r1]) rfl ?_
    first | rw [he, q] | rw [he] | rw [q] | skip
    exact ⟨a, c, rfl, HW.out, HA.out.keep (fun b hb => ((Below.heap_setCell _ _ _ _ (by have := hok b hb; show b ≠ w.heap.size + 1; omega)).trans (Below.heap_setCell _ _ _ _ (by have := hok b hb; show b ≠ w.heap.size + 1; omega))).trans (HB3.out.block b (hok b hb))) (fun b hb => hb), (HB3.out.setCell (p := ⟨w.heap.size + 1, 0, none⟩) (by simp) _).setCell (p := ⟨w.heap.size + 1, 1, none⟩) (by simp) _⟩
  · have he : endT x = Z0 := by unfold endT; rw [if_neg q]
    generalize hk : x.check = k at q he ⊢
    have HK := Lib.hid hk
    clear hk
    have hne : (k == 0) = false := by simpa using q
    go_wp2
    refine bodyPost_ret (v := .tuple #[tm 0 none 0 0, .int .i64 k]) (by simp [results, Try.results62, go_sem, r0, r1]) rfl ?_
    first | rw [he, HK.out] | rw [HK.out] | rw [he] | skip
    exact ⟨none, 0, rfl, wf_z0, isArgsp_z _ _, (HB3.out.setCell (p := ⟨w.heap.size + 1, 0, none⟩) (by simp) _).setCell (p := ⟨w.heap.size + 1, 1, none⟩) (by simp) _⟩


end Go.Proofs.Ytleohdddaadbeaa

/- SOf: contract of the reference's Of. -/
namespace Go.Proofs.Ytleohdddaadbeaa
set_option linter.unusedVariables false
set_option linter.unusedSimpArgs false
open Go.RowKit

set_option maxRecDepth 100000 in
set_option maxHeartbeats 1000000 in
theorem refOf_any (s : Sb) (v : Int) (n₀ : Nat) (a : Option Addr) (c : Nat) (w : World) (hn : n₀ ≤ w.heap.size) (h1 : -9223372036854775808 ≤ v) (h2 : v ≤ 9223372036854775807) (hS : IsBs n₀ w s a c) :
    Calls Try.prog 79 #[.slice a s.length c, .int .i64 v] w (OfPost n₀ (ofS s v) w) := by
  have hl : s.length ≤ c ∧ c ≤ maxLen := ⟨hS.1, hS.2.1⟩
  unfold maxLen at hl
  obtain ⟨hl1, hl2⟩ := hl
  have HS := Lib.hid hS
  clear hS
  go_enter Try.func79, Try.ntmps79
  go_wp2
  obtain ⟨w1, hw1⟩ : ∃ w1, w.alloc (tmCells 0 none 0 0) = w1 := ⟨_, rfl⟩
  have hB1 : Below w.heap.size w w1 := by rw [← hw1]; exact (Below.refl _ w).alloc (Nat.le_refl _) _
  have hs1 : w1.heap.size = w.heap.size + 1 := by rw [← hw1]; simp
  have hres : ∀ W, Below (w.heap.size + 1) w1 W → W.cell? ⟨w.heap.size, 0, none⟩ = some (.int .i64 0) ∧ W.cell? ⟨w.heap.size, 1, none⟩ = some (.slice none 0 0) ∧ W.frozen? ⟨w.heap.size, 0, none⟩ = false ∧ W.frozen? ⟨w.heap.size, 1, none⟩ = false := fun W hW =>
    ⟨(hW.cell (p := ⟨w.heap.size, 0, none⟩) (by simp)).trans (by rw [← hw1]; simp [go_sem]), (hW.cell (p := ⟨w.heap.size, 1, none⟩) (by simp)).trans (by rw [← hw1]; simp [go_sem]), (hW.frozen (p := ⟨w.heap.size, 0, none⟩) (by simp)).trans (by rw [← hw1]; simp [go_sem]), (hW.frozen (p := ⟨w.heap.size, 1, none⟩) (by simp)).trans (by rw [← hw1]; simp [go_sem])⟩
  rw [hw1]
  have HRES := Lib.hid hres
  have HB1 := Lib.hid hB1
  have HS1 := Lib.hid hs1
  clear hres hB1 hs1 hw1
  go_loopw [5] (fun i wr => OfI s v w w1 i wr) (fun i _ => s.length - (intOf i).toNat)
  case atStart => exact ⟨0, Nat.zero_le _, rfl, rfl, Below.refl _ _⟩
  case round =>
    obtain ⟨k, hk, rfl, hof, hB⟩ := hrel
    obtain ⟨r0, r1, rf0, rf1⟩ := HRES.out wr hB
    have hz : w.heap.size + 1 ≤ wr.heap.size := by have := hB.size; have := HS1.out; omega
    have HO := Lib.hid hof
    have HB := Lib.hid hB
    have HW := Lib.hid (HB1.out.trans (hB.mono (by omega)))
    clear hof hB
    by_cases hlt : k < s.length
    · obtain ⟨b, o, x, t, a', c', rfl, hbn, hsk, hxw, htw, hc0, hc1, hc2, hA'⟩ := (HS.out.below (HW.out.mono hn)).elem (i := k) hlt
      have hk0 : (0 : Int) ≤ (k : Int) := Int.natCast_nonneg _
      have hk1 : (k : Int) < (s.length : Int) := by omega
      have HSK := Lib.hid (ofS_step v hsk)
      have HTW := Lib.hid htw
      have HA' := Lib.hid hA'
      have hbw : b < wr.heap.size := by omega
      have hzw : w.heap.size < wr.heap.size := by omega
      clear hsk htw hxw hA'
      by_cases hv : x = v
      · subst hv
        have hof : ofS s x = t := by rw [HO.out, HSK.out]; simp
        go_wp2
        refine bodyPost_ret (v := tm t.head a' t.args.length c') (by simp [results, Try.results79, go_sem, r0, r1, hzw]) rfl ?_
        first | rw [hof] | skip
        exact ⟨a', c', rfl, HTW.out, HA'.out.below (((Below.refl n₀ wr).setCell (p := ⟨w.heap.size, 0, none⟩) hn _).setCell (p := ⟨w.heap.size, 1, none⟩) hn _), ((HW.out.setCell (p := ⟨w.heap.size, 0, none⟩) (by simp) _).setCell (p := ⟨w.heap.size, 1, none⟩) (by simp) _)⟩
      · have hv1 : (x == v) = false := by simpa using hv
        go_wp2
        go_roundw
        case rel =>
          refine ⟨k + 1, by omega, by go_num, ?_, HB.out⟩
          rw [HO.out, HSK.out, if_neg hv]
        case measure => simp [intOf]; omega
    · have hof : ofS s v = vt v := by rw [HO.out, List.drop_of_length_le (by omega)]; rfl
      go_wp2_with fail
      refine (refVar_any v wr h1 h2).mono ?_
      rintro e w2 ⟨rfl, hb2⟩
      obtain ⟨r0', r1', rf0', rf1'⟩ := HRES.out w2 (HB.out.trans (hb2.mono (by omega)))
      have HB2 := Lib.hid (HW.out.trans (hb2.mono (by omega)))
      clear hb2 r0 r1 rf0 rf1
      go_wp2
      refine bodyPost_ret (v := tm (-1 - v) none 0 0) (by simp [results, Try.results79, go_sem, r0', r1']) rfl ?_
      rw [hof]
      refine ⟨none, 0, rfl, wf_vt h1 h2, ⟨by simp [vt, T.args], by simp [maxLen], .inl rfl⟩, ?_⟩
      exact (HB2.out.setCell (p := ⟨w.heap.size, 0, none⟩) (by simp) _).setCell (p := ⟨w.heap.size, 1, none⟩) (by simp) _


end Go.Proofs.Ytleohdddaadbeaa
