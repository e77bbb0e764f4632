/- Contracts of checked, Apply and Shift. -/
import Derived.Test.YtleohdddaadbeaaReb
import Derived.Test.YtleohdddaadbeaaQDb
import Derived.Shelf.Abstract
namespace Go.Proofs.Ytleohdddaadbeaa
set_option linter.unusedVariables false
set_option linter.unusedSimpArgs false
open Go.RowKit Go.Shelf

/-- A term and an error, as answers. -/
def TEPost (x : T) (k : Int) (w : World) (e : Ending) (w' : World) : Prop :=
  ∃ a c, e = .returned (.tuple #[tm x.head a x.args.length c, .int .i64 k]) ∧ (Lit.int .i64 x.head).wf = true ∧ IsArgs w'.heap.size w' x.args a c ∧ Below w.heap.size w w'
/-- .. with a condition on the blocks. -/
def TEPostp (ok : Nat → Prop) (x : T) (k : Int) (w : World) (e : Ending) (w' : World) : Prop :=
  ∃ a c, e = .returned (.tuple #[tm x.head a x.args.length c, .int .i64 k]) ∧ (Lit.int .i64 x.head).wf = true ∧ IsArgsp ok w' x.args a c ∧ Below w.heap.size w w'
/-- .. in blocks that the caller had before n₀, or that the call made. -/
def TEPostF (n₀ : Nat) (x : T) (k : Int) (w : World) (e : Ending) (w' : World) : Prop :=
  ∃ a c, e = .returned (.tuple #[tm x.head a x.args.length c, .int .i64 k]) ∧ (Lit.int .i64 x.head).wf = true ∧ IsArgsp (fun b => (b < n₀ ∨ w.heap.size ≤ b) ∧ b < w'.heap.size) w' x.args a c ∧ Below w.heap.size w w'
theorem TEPostF.te {n₀ : Nat} {x : T} {k : Int} {w w' : World} {e : Ending} (h : TEPostF n₀ x k w e w') : TEPost x k w e w' := by
  obtain ⟨a, c, h1, h2, h3, h4⟩ := h
  exact ⟨a, c, h1, h2, h3.toArgs (fun _ h => h.2), h4⟩
theorem isArgsp_z (ok : Nat → Prop) (w : World) : IsArgsp ok w (T.node 0 []).args none 0 := ⟨by simp [T.args], by simp [maxLen], .inl rfl⟩
def endT (x : T) : T := if x.check = 0 then x else Z0
theorem wf_z0 : (Lit.int .i64 Z0.head).wf = true := by decide
theorem isArgs_z (n : Nat) (w : World) : IsArgs n w Z0.args none 0 := ⟨by simp [Z0, T.args], by simp [maxLen], .inl rfl⟩
theorem TEPost.later {x : T} {k : Int} {w w1 w' : World} {e : Ending} (h : TEPost x k w1 e w') (hb : Below w.heap.size w w1) : TEPost x k w e w' := by
  obtain ⟨a, c, h1, h2, h3, h4⟩ := h
  exact ⟨a, c, h1, h2, h3, hb.trans (h4.mono hb.size)⟩

set_option maxRecDepth 100000 in
set_option maxHeartbeats 1000000 in
theorem checked_any (x : T) (hx : x.size ≤ 1000000000000) (ok : Nat → Prop) (a : Option Addr) (c : Nat) (w : World) (hok : ∀ b, ok b → b < w.heap.size) (hwf : (Lit.int .i64 x.head).wf = true) (hA : IsArgsp ok w x.args a c) :
    Calls Try.prog 56 #[tm x.head a x.args.length c] w (TEPostp ok (endT x) x.check w) := by
  obtain ⟨w2, hw2⟩ : ∃ w2, (w.alloc (tmCells x.head a x.args.length c)).alloc (tmCells 0 none 0 0) = w2 := ⟨_, rfl⟩
  have hB2 : Below w.heap.size w w2 := by rw [← hw2]; exact ((Below.refl _ w).alloc (Nat.le_refl _) _).alloc (by simp) _
  have hs2 : w2.heap.size = w.heap.size + 2 := by rw [← hw2]; simp
  have L2 := Lib.hid (show ∀ W, Below w2.heap.size w2 W → W.cell? ⟨w.heap.size, 0, none⟩ = some (.int .i64 x.head) ∧ W.cell? ⟨w.heap.size, 1, none⟩ = some (.slice a x.args.length c) ∧ W.cell? ⟨w.heap.size + 1, 0, none⟩ = some (.int .i64 0) ∧ W.cell? ⟨w.heap.size + 1, 1, none⟩ = some (.slice none 0 0) ∧ W.frozen? ⟨w.heap.size + 1, 0, none⟩ = false ∧ W.frozen? ⟨w.heap.size + 1, 1, none⟩ = false from fun W hW =>
    ⟨(hW.cell (p := ⟨w.heap.size, 0, none⟩) (by simp; omega)).trans (by rw [← hw2]; simp [go_sem]), (hW.cell (p := ⟨w.heap.size, 1, none⟩) (by simp; omega)).trans (by rw [← hw2]; simp [go_sem]), (hW.cell (p := ⟨w.heap.size + 1, 0, none⟩) (by simp; omega)).trans (by rw [← hw2]; simp [go_sem]), (hW.cell (p := ⟨w.heap.size + 1, 1, none⟩) (by simp; omega)).trans (by rw [← hw2]; simp [go_sem]), (hW.frozen (p := ⟨w.heap.size + 1, 0, none⟩) (by simp; omega)).trans (by rw [← hw2]; simp [go_sem]), (hW.frozen (p := ⟨w.heap.size + 1, 1, none⟩) (by simp; omega)).trans (by rw [← hw2]; simp [go_sem])⟩)
  have CC := Lib.hid (check_any x hx w.heap.size a c w2 (by omega) hwf ((hA.toArgs hok).below hB2))
  have HW := Lib.hid hwf
  have HA := Lib.hid hA
  have HB2 := Lib.hid hB2
  clear hwf hA hB2 hs2
  obtain ⟨c0, c1, _, _, _, _⟩ := L2.out w2 (Below.refl _ _)
  go_enter Try.func56, Try.ntmps56
  go_wp2_with fail
  refine CC.out.mono ?_
  rintro e w3 ⟨rfl, hb3⟩
  clear c0 c1 hw2
  obtain ⟨c0, c1, r0, r1, rf0, rf1⟩ := L2.out w3 hb3
  have HB3 := Lib.hid (HB2.out.trans (hb3.mono HB2.out.size))
  have hz3 : w.heap.size ≤ w3.heap.size := HB3.out.size
  clear hb3
  have HE := Lib.hid (show endT x = if x.check = 0 then x else Z0 from rfl)
  by_cases q : x.check = 0
  · rw [q]
    have he : endT x = x := by unfold endT; rw [if_pos q]
    go_wp2
    refine bodyPost_ret (v := .tuple #[tm x.head a x.args.length c, .int .i64 0]) (by simp [results, Try.results56, go_sem, r0, r1]) rfl ?_
    first | rw [he, q] | rw [he] | rw [q] | skip
    exact ⟨a, c, rfl, HW.out, HA.out.keep (fun b hb => ((Below.heap_setCell _ _ _ _ (by have := hok b hb; show b ≠ w.heap.size + 1; omega)).trans (Below.heap_setCell _ _ _ _ (by have := hok b hb; show b ≠ w.heap.size + 1; omega))).trans (HB3.out.block b (hok b hb))) (fun b hb => hb), (HB3.out.setCell (p := ⟨w.heap.size + 1, 0, none⟩) (by simp) _).setCell (p := ⟨w.heap.size + 1, 1, none⟩) (by simp) _⟩
  · have he : endT x = Z0 := by unfold endT; rw [if_neg q]
    generalize hk : x.check = k at q he ⊢
    have HK := Lib.hid hk
    clear hk
    have hne : (k == 0) = false := by simpa using q
    go_wp2
    refine bodyPost_ret (v := .tuple #[tm 0 none 0 0, .int .i64 k]) (by simp [results, Try.results56, go_sem, r0, r1]) rfl ?_
    first | rw [he, HK.out] | rw [HK.out] | rw [he] | skip
    exact ⟨none, 0, rfl, wf_z0, isArgsp_z _ _, (HB3.out.setCell (p := ⟨w.heap.size + 1, 0, none⟩) (by simp) _).setCell (p := ⟨w.heap.size + 1, 1, none⟩) (by simp) _⟩

mutual
theorem T.sub_size {f : Int → T} {n : Nat} (hn : 1 ≤ n) (hf : ∀ v, (f v).size ≤ n) : (t : T) → (t.sub f).size ≤ t.size * n
  | .node h ts => by
    rw [T.sub]
    split
    · have := hf (-1 - h); simp only [T.size, Nat.add_mul]; have : 0 ≤ T.sizes ts * n := Nat.zero_le _; omega
    · have := T.subl_size hn hf ts; simp only [T.size, Nat.add_mul]; omega
theorem T.subl_size {f : Int → T} {n : Nat} (hn : 1 ≤ n) (hf : ∀ v, (f v).size ≤ n) : (ts : List T) → T.sizes (T.subl f ts) ≤ T.sizes ts * n
  | [] => by simp [T.subl, T.sizes]
  | t :: ts => by have h1 := T.sub_size hn hf t; have h2 := T.subl_size hn hf ts; simp only [T.subl, T.sizes, Nat.add_mul]; omega
end
theorem right_size {s : Sb} (h : rightS 0 s = true) : ∀ x ∈ s, x.2.size ≤ 400 := fun x hx => by
  obtain ⟨i, hi⟩ := List.getElem?_of_mem hx
  exact (check_ok (rightS_low h hi).2.2.1).1
theorem sub_bound {s : Sb} (h : rightS 0 s = true) {t : T} (ht : t.size ≤ 400) : (t.sub (ofS s)).size ≤ 160000 :=
  Nat.le_trans (T.sub_size (n := 400) (by omega) (ofS_size (by omega) (right_size h)) t) (by omega)

def goodA (s : Sb) (t : T) : Bool := rightS 0 s && decide (t.check = 0)
def appT (s : Sb) (t : T) : T := if goodA s t then endT (t.sub (ofS s)) else Z0
def appE (s : Sb) (t : T) : Int := if goodA s t then (t.sub (ofS s)).check else 1

theorem enters_tab : ∀ args W, (callFunc 59 args).run Try.prog W = .ok (.enter 59 args) W := enters_of Try.func59 (by kernel_rfl) rfl

set_option maxRecDepth 100000 in
set_option maxHeartbeats 4000000 in
theorem applyF_any (s : Sb) (hsz : ∀ x ∈ s, x.2.size ≤ 1000000000000) (t : T) (ht : t.size ≤ 1000000000000) (n₀ : Nat) (a : Option Addr) (c : Nat) (at_ : Option Addr) (ct : Nat) (w : World) (hn : n₀ ≤ w.heap.size) (hS : IsBs n₀ w s a c) (htw : (Lit.int .i64 t.head).wf = true) (hA : IsArgs n₀ w t.args at_ ct) :
    Calls Try.prog 30 #[.slice a s.length c, tm t.head at_ t.args.length ct] w (TEPostF n₀ (appT s t) (appE s t) w) := by
  obtain ⟨w2, hw2⟩ : ∃ w2, (w.alloc (tmCells t.head at_ t.args.length ct)).alloc (tmCells 0 none 0 0) = w2 := ⟨_, rfl⟩
  have hB2 : Below w.heap.size w w2 := by rw [← hw2]; exact ((Below.refl _ w).alloc (Nat.le_refl _) _).alloc (by simp) _
  have hs2 : w2.heap.size = w.heap.size + 2 := by rw [← hw2]; simp
  have L2 := Lib.hid (show ∀ W, Below w2.heap.size w2 W → W.cell? ⟨w.heap.size, 0, none⟩ = some (.int .i64 t.head) ∧ W.cell? ⟨w.heap.size, 1, none⟩ = some (.slice at_ t.args.length ct) ∧ W.cell? ⟨w.heap.size + 1, 0, none⟩ = some (.int .i64 0) ∧ W.cell? ⟨w.heap.size + 1, 1, none⟩ = some (.slice none 0 0) ∧ W.frozen? ⟨w.heap.size + 1, 0, none⟩ = false ∧ W.frozen? ⟨w.heap.size + 1, 1, none⟩ = false from fun W hW =>
    ⟨(hW.cell (p := ⟨w.heap.size, 0, none⟩) (by simp; omega)).trans (by rw [← hw2]; simp [go_sem]), (hW.cell (p := ⟨w.heap.size, 1, none⟩) (by simp; omega)).trans (by rw [← hw2]; simp [go_sem]), (hW.cell (p := ⟨w.heap.size + 1, 0, none⟩) (by simp; omega)).trans (by rw [← hw2]; simp [go_sem]), (hW.cell (p := ⟨w.heap.size + 1, 1, none⟩) (by simp; omega)).trans (by rw [← hw2]; simp [go_sem]), (hW.frozen (p := ⟨w.heap.size + 1, 0, none⟩) (by simp; omega)).trans (by rw [← hw2]; simp [go_sem]), (hW.frozen (p := ⟨w.heap.size + 1, 1, none⟩) (by simp; omega)).trans (by rw [← hw2]; simp [go_sem])⟩)
  have LS := Lib.hid (show ∀ W, Below w2.heap.size w2 W → IsBs n₀ W s a c ∧ IsArgs n₀ W t.args at_ ct ∧ Below w.heap.size w W ∧ n₀ ≤ W.heap.size from fun W hW => by
    have h := hB2.trans (hW.mono hB2.size)
    exact ⟨hS.below (h.mono hn), hA.below (h.mono hn), h, Nat.le_trans hn h.size⟩)
  have HTW := Lib.hid htw
  have HSZ := Lib.hid hsz
  have HS2 := Lib.hid hs2
  clear hS hA hB2 hs2 htw hsz
  go_enter Try.func30, Try.ntmps30
  go_wp2_with fail
  have ls := LS.out w2 (Below.refl _ _)
  refine (sCheck_any s HSZ.out n₀ a c w2 ls.2.2.2 ls.1).mono ?_
  clear ls hw2
  rintro e w3 ⟨rfl, hb3⟩
  by_cases q1 : rightS 0 s = true
  · rw [show errS s = 0 from by unfold errS; rw [if_pos q1]]
    obtain ⟨c0, c1, _, _, _, _⟩ := L2.out w3 hb3
    have HB3 := Lib.hid hb3
    clear hb3
    go_wp2_with fail
    clear c0 c1
    have ls := LS.out w3 HB3.out
    refine (check_any t ht n₀ at_ ct w3 ls.2.2.2 HTW.out ls.2.1).mono ?_
    clear ls
    rintro e w4 ⟨rfl, hb4⟩
    have hb4' := HB3.out.trans (hb4.mono HB3.out.size)
    clear hb4 HB3
    have HB4 := Lib.hid hb4'
    by_cases q2 : t.check = 0
    · rw [q2]
      have hga : goodA s t = true := by simp [goodA, q1, q2]
      have hT : appT s t = endT (t.sub (ofS s)) := by unfold appT; rw [if_pos hga]
      have hE : appE s t = (t.sub (ofS s)).check := by unfold appE; rw [if_pos hga]
      obtain ⟨hts, _, htg⟩ := check_ok q2
      have hxs : (t.sub (ofS s)).size ≤ 1000000000000 := Nat.le_trans (sub_bound q1 hts) (by omega)
      obtain ⟨c0, c1, r0, r1, rf0, rf1⟩ := L2.out w4 hb4'
      have HF := Lib.hid (LS.out w4 hb4').2.2.1
      have KP := Lib.hid (show ∀ W, Below w4.heap.size w4 W → W.cell? ⟨w.heap.size, 0, none⟩ = some (.int .i64 t.head) ∧ W.cell? ⟨w.heap.size, 1, none⟩ = some (.slice at_ t.args.length ct) ∧ W.cell? ⟨w.heap.size + 1, 0, none⟩ = some (.int .i64 0) ∧ W.cell? ⟨w.heap.size + 1, 1, none⟩ = some (.slice none 0 0) ∧ W.frozen? ⟨w.heap.size + 1, 0, none⟩ = false ∧ W.frozen? ⟨w.heap.size + 1, 1, none⟩ = false from fun W hW => L2.out W (HB4.out.trans (hW.mono HB4.out.size)))
      have CT := Lib.hid (show ∀ W, Below w4.heap.size w4 W → Calls Try.prog 58 #[.slice a s.length c] W (TabPost n₀ s W) from fun W hW => by
        have ls := LS.out W (HB4.out.trans (hW.mono HB4.out.size))
        exact tableOf_any s q1 n₀ a c W ls.2.2.2 ls.1)
      have CR := Lib.hid (show ∀ W B, Below w4.heap.size w4 W → TabR n₀ W B s → Calls Try.prog 57 #[tm t.head at_ t.args.length ct, .func (.func 59) #[.map (some B)] #[]] W (RepPost (t.sub (ofS s)) W) from fun W B hW hT => by
        have ls := LS.out W (HB4.out.trans (hW.mono HB4.out.size))
        exact rebuild_any _ enters_tab (.map (some B)) (ofS s) t.size t (Nat.le_refl _) ht htg n₀ at_ ct W ls.2.2.2 HTW.out ls.2.1 (fun X v hX h0 h1 => tabRep_any s HSZ.out v (by omega) (by omega) n₀ B X (Nat.le_trans ls.2.2.2 hX.size) (hT.below ls.2.2.2 hX)))
      generalize t.sub (ofS s) = x at hxs hT hE CR ⊢
      clear hb4' hga hts htg
      have hD4 : Below w4.heap.size w4 w4.drew := (Below.refl _ _).drew
      go_wp2
      go_region_law (first
        | (go_simp; go_at_call 58; refine (CT.out _ hD4).mono ?_; rintro e w5 ⟨B, rfl, hT5, hb5⟩; have hB5 : Below w4.heap.size w4 w5 := ⟨hb5.os, hb5.tape, hb5.output, hb5.size, hb5.block⟩; obtain ⟨c5, c5', _, _, _, _⟩ := KP.out w5 hB5)
        | (go_simp; go_at_call 57; refine (CR.out _ B hB5 hT5).mono ?_; rintro e w6 ⟨a6, c6, rfl, hw6, hI6, hb6⟩; have hB6 : Below w4.heap.size w4 w6 := hB5.trans (hb6.mono hB5.size))
        | (go_simp; go_at_call 56; refine (checked_any x hxs _ a6 c6 w6 (fun b h => h.2) hw6 hI6).mono ?_; rintro e w7 ⟨a7, c7, rfl, hw7, hA7, hb7⟩; have hB7 : Below w4.heap.size w4 w7 := hB6.trans (hb7.mono hB6.size); obtain ⟨_, _, s0, s1, sf0, sf1⟩ := KP.out w7 hB7))
      all_goals
        go_wp2
        refine bodyPost_ret (v := .tuple #[tm (endT x).head a7 (endT x).args.length c7, .int .i64 x.check]) (by simp [results, Try.results30, go_sem, s0, s1]) rfl ?_
        first | rw [hT, hE] | skip
        have hw7' : Below w.heap.size w w7 := HF.out.trans (hB7.mono HF.out.size)
        have hz7 : w.heap.size + 2 ≤ w7.heap.size := by have h1 := HB4.out.size; have h2 := hB7.size; have := HS2.out; omega
        have hz5 : w.heap.size + 2 ≤ w5.heap.size := by have h1 := HB4.out.size; have h2 := hB5.size; have := HS2.out; omega
        have hz67 := hb7.size
        refine ⟨a7, c7, rfl, hw7, (hA7.keep (ok' := fun b => (b < n₀ ∨ w.heap.size ≤ b) ∧ b < ((w7.setCell ⟨w.heap.size + 1, 0, none⟩ (.int .i64 (endT x).head)).setCell ⟨w.heap.size + 1, 1, none⟩ (.slice a7 (endT x).args.length c7)).heap.size) (fun b hb => (Below.heap_setCell _ _ _ _ (by have := hb.1; show b ≠ w.heap.size + 1; omega)).trans (Below.heap_setCell _ _ _ _ (by have := hb.1; show b ≠ w.heap.size + 1; omega))) (fun b hb => by have := hb.1; have := hb.2; simp; omega)), (hw7'.setCell (p := ⟨w.heap.size + 1, 0, none⟩) (by simp) _).setCell (p := ⟨w.heap.size + 1, 1, none⟩) (by simp) _⟩
    · have hga : goodA s t = false := by simp [goodA, q2]
      have hT : appT s t = Z0 := by unfold appT; rw [hga]; rfl
      have hE : appE s t = 1 := by unfold appE; rw [hga]; rfl
      obtain ⟨_, _, s0, s1, sf0, sf1⟩ := L2.out w4 hb4'
      have HF := Lib.hid (LS.out w4 hb4').2.2.1
      generalize hk : t.check = k at q2 ⊢
      have hne : (k == 0) = false := by simpa using q2
      clear hb4' hk
      go_wp2
      refine bodyPost_ret (v := .tuple #[tm 0 none 0 0, .int .i64 1]) (by simp [results, Try.results30, go_sem, s0, s1]) rfl ?_
      first | rw [hT, hE] | skip
      exact ⟨none, 0, rfl, wf_z0, isArgsp_z _ _, (HF.out.setCell (p := ⟨w.heap.size + 1, 0, none⟩) (by simp) _).setCell (p := ⟨w.heap.size + 1, 1, none⟩) (by simp) _⟩
  · have hga : goodA s t = false := by simp [goodA, q1]
    have hT : appT s t = Z0 := by unfold appT; rw [hga]; rfl
    have hE : appE s t = 1 := by unfold appE; rw [hga]; rfl
    rw [show errS s = 1 from by unfold errS; rw [if_neg q1]]
    obtain ⟨_, _, s0, s1, sf0, sf1⟩ := L2.out w3 hb3
    have HF := Lib.hid (LS.out w3 hb3).2.2.1
    clear hb3
    go_wp2
    refine bodyPost_ret (v := .tuple #[tm 0 none 0 0, .int .i64 1]) (by simp [results, Try.results30, go_sem, s0, s1]) rfl ?_
    first | rw [hT, hE] | skip
    exact ⟨none, 0, rfl, wf_z0, isArgsp_z _ _, (HF.out.setCell (p := ⟨w.heap.size + 1, 0, none⟩) (by simp) _).setCell (p := ⟨w.heap.size + 1, 1, none⟩) (by simp) _⟩

theorem apply_any (s : Sb) (hsz : ∀ x ∈ s, x.2.size ≤ 1000000000000) (t : T) (ht : t.size ≤ 1000000000000) (n₀ : Nat) (a : Option Addr) (c : Nat) (at_ : Option Addr) (ct : Nat) (w : World) (hn : n₀ ≤ w.heap.size) (hS : IsBs n₀ w s a c) (htw : (Lit.int .i64 t.head).wf = true) (hA : IsArgs n₀ w t.args at_ ct) :
    Calls Try.prog 30 #[.slice a s.length c, tm t.head at_ t.args.length ct] w (TEPost (appT s t) (appE s t) w) :=
  (applyF_any s hsz t ht n₀ a c at_ ct w hn hS htw hA).mono fun _ _ h => h.te

end Go.Proofs.Ytleohdddaadbeaa
