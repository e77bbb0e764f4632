/- QBi: joined of Tdc, Rg, Rv1, Lb. -/
import Derived.Test.YtbdabdjpgmnejaaQBh
import Derived.Test.YtbdabdjpgmnejaaCopy
import Derived.Test.YtbdabdjpgmnejaaQBc
import Derived.Deep.AppendLies
import Derived.Deep.RegionLaw
import Derived.Laws.IdiomCopy
import Derived.Shelf.RegionOpenPlain
import Derived.Lib.SliceRun
import Derived.Test.YtbdabdjpgmnejaaQBe
import Derived.Test.YtbdabdjpgmnejaaQBb
import Derived.Deep.CutRange
import Derived.Test.YtbdabdjpgmnejaaQBf
import Derived.Test.YtbdabdjpgmnejaaQBg
/- Contracts of clause's Tidy and Tautology. -/
namespace Go.Proofs.Ytbdabdjpgmnejaa
set_option linter.unusedVariables false
set_option linter.unusedSimpArgs false
open Go.RowKit
/-! ### Small ones -/
set_option maxRecDepth 100000 in
theorem never_any (x : LV) (hx : x.sz) (n₀ : Nat) (w : World) (hn : n₀ ≤ w.heap.size) (hX : IsLv n₀ w x) :
    Calls Try.prog 14 #[x.v] w fun e w' => e = .returned (.bool (voidL x.t3)) ∧ Below w.heap.size w w' := by
  have hF : Below w.heap.size w (w.alloc x.obj) := (Below.refl _ w).alloc (Nat.le_refl _) _
  have C := Lib.hid (litTrivial_any x hx n₀ (w.alloc x.obj) (by simp; omega) (hX.below (hF.mono hn)))
  have HF := Lib.hid hF
  have HE := Lib.hid (show voidL x.t3 = (x.n && sameB x.l x.r) from rfl)
  clear hX hF hx
  obtain ⟨n, l, r, pa, ca, pb, cb⟩ := x
  go_enter Try.func14, Try.ntmps14
  cases n with
  | false =>
    go_wp2
    go_ret
    exact ⟨by rw [HE.out]; rfl, HF.out⟩
  | true =>
    go_wp2_with fail
    refine C.out.mono ?_
    rintro e w2 ⟨rfl, hb⟩
    have HB := Lib.hid (HF.out.trans (hb.mono HF.out.size))
    clear hb C
    simp only at HE ⊢
    cases hq : sameB l r
    all_goals
      have HQ := Lib.hid hq
      clear hq
      go_wp2
      go_ret
      exact ⟨by rw [HE.out, HQ.out]; rfl, HB.out⟩
set_option maxRecDepth 100000 in
theorem always_any (x : LV) (hx : x.sz) (n₀ : Nat) (w : World) (hn : n₀ ≤ w.heap.size) (hX : IsLv n₀ w x) :
    Calls Try.prog 42 #[x.v] w fun e w' => e = .returned (.bool (!x.n && sameB x.l x.r)) ∧ Below w.heap.size w w' := by
  have hF : Below w.heap.size w (w.alloc x.obj) := (Below.refl _ w).alloc (Nat.le_refl _) _
  have C := Lib.hid (litTrivial_any x hx n₀ (w.alloc x.obj) (by simp; omega) (hX.below (hF.mono hn)))
  have HF := Lib.hid hF
  clear hX hF hx
  obtain ⟨n, l, r, pa, ca, pb, cb⟩ := x
  go_enter Try.func42, Try.ntmps42
  cases n with
  | true =>
    go_wp2
    go_ret
    exact ⟨rfl, HF.out⟩
  | false =>
    go_wp2_with fail
    refine C.out.mono ?_
    rintro e w2 ⟨rfl, hb⟩
    have HB := Lib.hid (HF.out.trans (hb.mono HF.out.size))
    clear hb C
    simp only
    cases hq : sameB l r
    all_goals
      have HQ := Lib.hid hq
      clear hq
      go_wp2
      go_ret
      exact ⟨by first | rfl | (rw [HQ.out]; rfl), HB.out⟩
/-- A term as it is, or copied. -/
def OwPost (n₀ : Nat) (t : T) (w : World) (e : Ending) (w' : World) : Prop :=
  ∃ a c, e = .returned (tm t.head a t.args.length c) ∧ IsArgsp (fun b => b < n₀ ∨ w.heap.size ≤ b ∧ b < w'.heap.size) w' t.args a c ∧ Below w.heap.size w w'
set_option maxRecDepth 100000 in
set_option maxHeartbeats 2000000 in
theorem owned_any (t : T) (ht : t.size ≤ 1000000000000) (n₀ : Nat) (a : Option Addr) (c : Nat) (w : World) (hn : n₀ ≤ w.heap.size) (hwf : (Lit.int .i64 t.head).wf = true) (hA : IsArgs n₀ w t.args a c) :
    Calls Try.prog 15 #[tm t.head a t.args.length c] w (OwPost n₀ t w) := by
  obtain ⟨W1, hW1⟩ : ∃ W1, (w.alloc (tmCells t.head a t.args.length c)).alloc (tmCells 0 none 0 0) = W1 := ⟨_, rfl⟩
  have hs1 : W1.heap.size = w.heap.size + 2 := by rw [← hW1]; simp
  have hF : Below w.heap.size w W1 := by rw [← hW1]; exact ((Below.refl _ w).alloc (Nat.le_refl _) _).alloc (by simp) _
  have L := Lib.hid (show ∀ W, Below W1.heap.size W1 W → W.cell? ⟨w.heap.size, 0, none⟩ = some (.int .i64 t.head) ∧ W.cell? ⟨w.heap.size, 1, none⟩ = some (.slice a t.args.length c) ∧ W.cell? ⟨w.heap.size + 1, 0, none⟩ = some (.int .i64 0) ∧ W.cell? ⟨w.heap.size + 1, 1, none⟩ = some (.slice none 0 0) ∧ W.frozen? ⟨w.heap.size + 1, 0, none⟩ = false ∧ W.frozen? ⟨w.heap.size + 1, 1, none⟩ = false from fun W hW =>
    ⟨(hW.cell (p := ⟨w.heap.size, 0, none⟩) (by simp; omega)).trans (by rw [← hW1]; simp [go_sem]), (hW.cell (p := ⟨w.heap.size, 1, none⟩) (by simp; omega)).trans (by rw [← hW1]; simp [go_sem]), (hW.cell (p := ⟨w.heap.size + 1, 0, none⟩) (by simp; omega)).trans (by rw [← hW1]; simp [go_sem]), (hW.cell (p := ⟨w.heap.size + 1, 1, none⟩) (by simp; omega)).trans (by rw [← hW1]; simp [go_sem]), (hW.frozen (p := ⟨w.heap.size + 1, 0, none⟩) (by simp; omega)).trans (by rw [← hW1]; simp [go_sem]), (hW.frozen (p := ⟨w.heap.size + 1, 1, none⟩) (by simp; omega)).trans (by rw [← hW1]; simp [go_sem])⟩)
  have CC := Lib.hid (check_any t ht n₀ a c W1 (by omega) hwf (hA.below (hF.mono hn)))
  have CP := Lib.hid (fun (W : World) (hW : Below W1.heap.size W1 W) => copy_any t ht n₀ a c W (by have := hW.size; omega) hwf (hA.below ((hF.trans (hW.mono hF.size)).mono hn)))
  have HA := Lib.hid hA
  have HF := Lib.hid hF
  have HS1 := Lib.hid hs1
  clear hA hF hs1
  obtain ⟨c0, c1, r0, r1, rf0, rf1⟩ := L.out W1 (Below.refl _ _)
  go_enter Try.func15, Try.ntmps15
  go_wp2_with fail
  clear c0 c1 r0 r1 rf0 rf1 hW1
  refine CC.out.mono ?_
  rintro e w2 ⟨rfl, hb2⟩
  have HB2 := Lib.hid hb2
  obtain ⟨c0, c1, r0, r1, rf0, rf1⟩ := L.out w2 hb2
  have hF2 : Below w.heap.size w w2 := HF.out.trans (hb2.mono HF.out.size)
  have HF2 := Lib.hid hF2
  have hz2 := hb2.size
  clear hb2 hF2 CC
  obtain ⟨k, hk⟩ : ∃ k, t.check = k := ⟨_, rfl⟩
  rw [hk]
  clear hk
  by_cases h : k = 2
  · subst h
    go_wp2
    refine bodyPost_ret (v := tm t.head a t.args.length c) (by simp [results, Try.results15, go_sem, r0, r1]) rfl ?_
    have hB : Below w.heap.size w ((w2.setCell ⟨w.heap.size + 1, 0, none⟩ (.int .i64 t.head)).setCell ⟨w.heap.size + 1, 1, none⟩ (.slice a t.args.length c)) := (HF2.out.setCell (p := ⟨w.heap.size + 1, 0, none⟩) (by simp) _).setCell (p := ⟨w.heap.size + 1, 1, none⟩) (by simp) _
    exact ⟨a, c, rfl, (isArgsp_lt.2 (HA.out.below (hB.mono hn))).keep (fun _ _ => rfl) (fun b hb => .inl hb), hB⟩
  · have h' : (k == 2) = false := by simpa using h
    go_wp2_with fail
    clear c0 c1 r0 r1 rf0 rf1
    refine (CP.out w2 HB2.out).mono ?_
    rintro e w3 ⟨a3, c3, rfl, hA3, hb3⟩
    obtain ⟨c0, c1, r0, r1, rf0, rf1⟩ := L.out w3 (HB2.out.trans (hb3.mono hz2))
    have HA3 := Lib.hid hA3
    have HB3 := Lib.hid hb3
    clear hA3 hb3
    go_wp2
    refine bodyPost_ret (v := tm t.head a3 t.args.length c3) (by simp [results, Try.results15, go_sem, r0, r1]) rfl ?_
    have hB : Below w.heap.size w ((w3.setCell ⟨w.heap.size + 1, 0, none⟩ (.int .i64 t.head)).setCell ⟨w.heap.size + 1, 1, none⟩ (.slice a3 t.args.length c3)) := ((HF2.out.trans (HB3.out.mono HF2.out.size)).setCell (p := ⟨w.heap.size + 1, 0, none⟩) (by simp) _).setCell (p := ⟨w.heap.size + 1, 1, none⟩) (by simp) _
    refine ⟨a3, c3, rfl, HA3.out.keep (fun b hb => (Below.heap_setCell _ _ _ _ (by have := hb.1; have := HS1.out; show b ≠ w.heap.size + 1; omega)).trans (Below.heap_setCell _ _ _ _ (by have := hb.1; have := HS1.out; show b ≠ w.heap.size + 1; omega))) (fun b hb => .inr ⟨by have := hb.1; have := HS1.out; omega, by have := hb.2.lt; simp; exact this⟩), hB⟩
/-! ### firsts -/
set_option maxRecDepth 100000 in
theorem first11_any (x o : LV) (hx : x.sz) (n₀ B2 : Nat) (W : World) (hn : n₀ ≤ W.heap.size) (hX : IsLv n₀ W x) (hO : IsLv n₀ W o) (h2 : B2 < W.heap.size) (hl : Lc B2 o W) :
    Calls Try.prog 31 #[x.v, .pointer (some ⟨B2, 0, none⟩)] W fun e w' => e = .returned (.bool (sameLB x.t3 o.t3)) ∧ Below W.heap.size W w' := by
  obtain ⟨W1, hW1⟩ : ∃ W1, W.alloc x.obj = W1 := ⟨_, rfl⟩
  have hF1 : Below W.heap.size W W1 := by rw [← hW1]; exact (Below.refl _ W).alloc (Nat.le_refl _) _
  obtain ⟨x0, x1, x2, x3, x4⟩ := (show Later (Lc W.heap.size x) W1 from by rw [← hW1]; exact later_lc W x).now
  obtain ⟨l0, l1, l2, l3, l4⟩ := hl
  have k0 := (hF1.cell (p := ⟨B2, 0, none⟩) h2).trans l0
  have k1 := (hF1.cell (p := ⟨B2, 1, none⟩) h2).trans l1
  have k2 := (hF1.cell (p := ⟨B2, 2, none⟩) h2).trans l2
  have k3 := (hF1.cell (p := ⟨B2, 3, none⟩) h2).trans l3
  have k4 := (hF1.cell (p := ⟨B2, 4, none⟩) h2).trans l4
  have HC := Lib.hid (litSame_any x o hx n₀ W1 (Nat.le_trans hn hF1.size) (hX.below (hF1.mono hn)) (hO.below (hF1.mono hn)))
  have HE := Lib.hid (show samL x.n x.l x.r o.n o.l o.r = sameLB x.t3 o.t3 from rfl)
  have HF1 := Lib.hid hF1
  clear hX hO hF1 l0 l1 l2 l3 l4
  go_enter Try.func31, Try.ntmps31
  go_wp2_with fail
  refine HC.out.mono ?_
  rintro e w2 ⟨rfl, hb2⟩
  have HB := Lib.hid (HF1.out.trans (hb2.mono HF1.out.size))
  clear hb2
  go_wp2
  go_ret
  exact ⟨by rw [← HE.out]; rfl, HB.out⟩
/-- Where the two rows stand: the literals seen, and those kept. -/
structure TdS (n₀ Bp : Nat) (S O : List LV) (sv ov : Value) (w W : World) : Prop where
  b : Below Bp w W
  z : Bp < W.heap.size
  c : W.cell? ⟨Bp, 0, none⟩ = some sv
  f : W.frozen? ⟨Bp, 0, none⟩ = false
  s : OL (· < n₀) (Bp + 1) sv S W
  o : ∃ ok : Nat → Prop, OL ok (Bp + 1) ov O W ∧ ∀ b, ok b → b < W.heap.size ∧ ov.ownBlock ≠ some b ∧ sv.ownBlock ≠ some b ∧ b ≠ Bp
  ne : ∀ g, sv.ownBlock = some g → ov.ownBlock ≠ some g
theorem TdS.later {n₀ Bp : Nat} {S O : List LV} {sv ov : Value} {w W W' : World} (h : TdS n₀ Bp S O sv ov w W) (hn : n₀ ≤ Bp) (hb : Below W.heap.size W W') : TdS n₀ Bp S O sv ov w W' := by
  have hz := h.z
  obtain ⟨ok, h1, h2⟩ := h.o
  exact ⟨h.b.trans (hb.mono (by omega)), by have := hb.size; omega, (hb.cell (p := ⟨Bp, 0, none⟩) hz).trans h.c, (hb.frozen (p := ⟨Bp, 0, none⟩) hz).trans h.f, h.s.later (fun b hk => by have : b < n₀ := hk; omega) hb, ⟨ok, h1.later (fun b hk => (h2 b hk).1) hb, fun b hk => ⟨by have := (h2 b hk).1; have := hb.size; omega, (h2 b hk).2⟩⟩, h.ne⟩
def FiPost (n₀ Bp : Nat) (S O : List LV) (x : LV) (sv ov : Value) (w W : World) (e : Ending) (w' : World) : Prop :=
  ((t3s S).any (fun y => sameLB y x.t3) = true ∧ e = .returned (.bool false) ∧ TdS n₀ Bp S O sv ov w w' ∧ Below Bp W w') ∨
  ((t3s S).any (fun y => sameLB y x.t3) = false ∧ e = .returned (.bool true) ∧ ∃ sv', TdS n₀ Bp (S ++ [x]) O sv' ov w w' ∧ (sv'.ownBlock = sv.ownBlock ∨ ∃ g, sv'.ownBlock = some g ∧ W.heap.size ≤ g) ∧ (∀ b, b < W.heap.size → b ≠ Bp → sv.ownBlock ≠ some b → w'.heap[b]? = W.heap[b]?) ∧ Below Bp W w')
set_option maxRecDepth 100000 in
set_option maxHeartbeats 4000000 in
theorem first1_any (n₀ Bp : Nat) (S O : List LV) (x : LV) (hsl : S.length ≤ 1000000) (hss : ∀ y ∈ S, y.sz) (sv ov : Value) (w W : World) (hn : n₀ ≤ Bp) (hT : TdS n₀ Bp S O sv ov w W) (hX : IsLv n₀ W x) :
    Calls Try.prog 29 #[x.v, .pointer (some ⟨Bp, 0, none⟩)] W (FiPost n₀ Bp S O x sv ov w W) := by
  have hz := hT.z
  obtain ⟨W1, hW1⟩ : ∃ W1, W.alloc x.obj = W1 := ⟨_, rfl⟩
  have hs1 : W1.heap.size = W.heap.size + 1 := by rw [← hW1]; simp
  have hF1 : Below W.heap.size W W1 := by rw [← hW1]; exact (Below.refl _ W).alloc (Nat.le_refl _) _
  have L := (show Later (Lc W.heap.size x) W1 from by rw [← hW1]; exact later_lc W x)
  obtain ⟨x0, x1, x2, x3, x4⟩ := L.now
  have hT1 := hT.later hn hF1
  obtain ⟨ps, cs, rfl, hcl⟩ := hT1.s.args (fun b hb => by have : b < n₀ := hb; omega)
  have c0 := hT1.c
  have eg := enters_of Try.func31 (by kernel_rfl) rfl
  have HC := Lib.hid (containsL_any (fun y => sameLB y x.t3) 31 #[.pointer (some ⟨W.heap.size, 0, none⟩)] eg S W1.heap.size ps cs W1 (Nat.le_refl _) hcl
    (fun X t ht hX' htl => first11_any t x (hss t ht) W1.heap.size W.heap.size X hX'.size htl ((((hX.below (hF1.mono (by omega))).mono (by omega))).below hX') (by have := hX'.size; omega) (L.mv hX').now))
  have HT1 := Lib.hid hT1
  have HX := Lib.hid (hX.below (hF1.mono (by omega)))
  have HF1 := Lib.hid hF1
  have HL := Lib.hid L
  clear hT hT1 hX hF1 L hcl eg
  go_enter Try.func29, Try.ntmps29
  go_wp2_with fail
  refine HC.out.mono ?_
  rintro e w2 ⟨rfl, hb2⟩
  have HB2 := Lib.hid hb2
  have hz2 := hb2.size
  have HT2 := Lib.hid (HT1.out.later hn hb2)
  clear hb2 HC x0 x1 x2 x3 x4 c0 hW1
  cases hq : (t3s S).any (fun y => sameLB y x.t3) with
  | true =>
    have HQ := Lib.hid hq
    clear hq
    go_wp2
    go_ret
    exact .inl ⟨HQ.out, rfl, HT2.out, (HF1.out.mono (by omega)).trans (HB2.out.mono (by omega))⟩
  | false =>
    have HQ := Lib.hid hq
    clear hq
    obtain ⟨x0, x1, x2, x3, x4⟩ := HL.out w2 HB2.out
    have c0 := HT2.out.c
    have cf := HT2.out.f
    have hbn : Bp ≠ w2.heap.size := by omega
    obtain ⟨W3, hW3⟩ : ∃ W3, w2.alloc x.obj = W3 := ⟨_, rfl⟩
    have hs3 : W3.heap.size = w2.heap.size + 1 := by rw [← hW3]; simp
    have hF3 : Below w2.heap.size w2 W3 := by rw [← hW3]; exact (Below.refl _ w2).alloc (Nat.le_refl _) _
    have HT3 := Lib.hid (HT2.out.later hn hF3)
    obtain ⟨y0, y1, y2, y3, y4⟩ := (show Later (Lc w2.heap.size x) W3 from by rw [← hW3]; exact later_lc w2 x).now
    have HS := Lib.hid (show SrcL W3 [x] (some ⟨w2.heap.size, 0, none⟩) 1 from SrcL.of_one ⟨y0, by simpa using y1, by simpa using y2, by simpa using y3, by simpa using y4⟩)
    have HF3 := Lib.hid hF3
    have c3 := HT3.out.c
    have cf3 := HT3.out.f
    clear hF3 y0 y1 y2 y3 y4
    go_wp2_with (at_builtin; refine stopHere ?_)
    refine Lib.hid ?_
    refine wpList_append_ls rfl _ _ rfl (· < n₀) (Bp + 1) (.slice ps S.length cs) S rfl HT3.out.s (by omega) [x] (some ⟨w2.heap.size, 0, none⟩) 1 rfl HS.out (by simp; omega) ?_
    intro v' w4 hown hgr hv
    have hz4 := hgr.size
    have hnB : (Value.slice ps S.length cs).ownBlock ≠ some Bp := fun e => by have := (HT3.out.s.block e).1; omega
    have hbl : ∀ b, b < W3.heap.size → (Value.slice ps S.length cs).ownBlock ≠ some b → w4.heap[b]? = W3.heap[b]? := fun b h1 h2 => hgr.block b h1 (fun e => h2 e.symm)
    have hc4 : w4.cell? ⟨Bp, 0, none⟩ = some (.slice ps S.length cs) := (World.cell?_of_block (a := ⟨Bp, 0, none⟩) (hbl Bp (by omega) hnB)).trans c3
    have hf4 : w4.frozen? ⟨Bp, 0, none⟩ = false := (World.frozen?_of_block (a := ⟨Bp, 0, none⟩) (hbl Bp (by omega) hnB)).trans cf3
    have hOL : OL (· < n₀) (Bp + 1) v' (S ++ [x]) w4 := HT3.out.s.append hown hgr (fun b hb => ⟨by have : b < n₀ := hb; omega, fun e => by have h1 := (HT3.out.s.block e).1; have : b < n₀ := hb; omega⟩) (fun y hy => by
      simp at hy; subst hy
      exact isLvp_lt.2 ((HX.out.below (HB2.out.mono (by omega))).below (HF3.out.mono (by omega))))
    obtain ⟨pv', cv', rfl, _⟩ := hOL.args (fun b hb => by have : b < n₀ := hb; omega)
    have hvb : (Value.slice pv' (S ++ [x]).length cv').ownBlock = (Value.slice ps S.length cs).ownBlock ∨ ∃ g, (Value.slice pv' (S ++ [x]).length cv').ownBlock = some g ∧ W.heap.size ≤ g := by
      rcases hv with hv | hv
      · exact .inl hv
      · exact .inr ⟨_, hv, by omega⟩
    have hfin : TdS n₀ Bp (S ++ [x]) O (.slice pv' (S ++ [x]).length cv') ov w (w4.setCell ⟨Bp, 0, none⟩ (.slice pv' (S ++ [x]).length cv')) ∧ (∀ b, b < W.heap.size → b ≠ Bp → (Value.slice ps S.length cs).ownBlock ≠ some b → (w4.setCell ⟨Bp, 0, none⟩ (.slice pv' (S ++ [x]).length cv')).heap[b]? = W.heap[b]?) ∧ Below Bp W (w4.setCell ⟨Bp, 0, none⟩ (.slice pv' (S ++ [x]).length cv')) := by
      have hset : ∀ b, b ≠ Bp → (w4.setCell ⟨Bp, 0, none⟩ (.slice pv' (S ++ [x]).length cv')).heap[b]? = w4.heap[b]? := fun b h => Below.heap_setCell _ _ _ _ h
      have hvB : (Value.slice pv' (S ++ [x]).length cv').ownBlock ≠ some Bp := fun e => by have := (hOL.block e).1; omega
      obtain ⟨ok, ho1, ho2⟩ := HT3.out.o
      have hov : ∀ g, ov.ownBlock = some g → g < W3.heap.size ∧ (Value.slice ps S.length cs).ownBlock ≠ some g ∧ Bp + 1 ≤ g := fun g hg => ⟨(ho1.block hg).2, fun e => HT3.out.ne g e hg, (ho1.block hg).1⟩
      have hall : ∀ b, b < W3.heap.size → (Value.slice ps S.length cs).ownBlock ≠ some b → b ≠ Bp → (w4.setCell ⟨Bp, 0, none⟩ (.slice pv' (S ++ [x]).length cv')).heap[b]? = W3.heap[b]? := fun b h1 h2 h3 => (hset b h3).trans (hbl b h1 h2)
      have hsz : (w4.setCell ⟨Bp, 0, none⟩ (.slice pv' (S ++ [x]).length cv')).heap.size = w4.heap.size := by simp
      have hnew : ∀ b, b < W3.heap.size → (Value.slice ps S.length cs).ownBlock ≠ some b → (Value.slice pv' (S ++ [x]).length cv').ownBlock ≠ some b := fun b h1 h2 e => by
        rcases hv with hv | hv
        · exact h2 (hv ▸ e)
        · rw [hv] at e; cases e; omega
      have h4 : Below Bp W3 w4 := (Below.refl Bp W3).grown hgr (by omega) (fun g hg => by have := (HT3.out.s.block hg).1; omega)
      refine ⟨⟨?_, by rw [hsz]; omega, ?_, ?_, ?_, ⟨ok, ?_, fun b hb => ?_⟩, ?_⟩, fun b h1 h2 h3 => ?_, (((HF1.out.mono (by omega)).trans (HB2.out.mono (by omega))).trans (HF3.out.mono (by omega))).trans (h4.setCell (p := ⟨Bp, 0, none⟩) (Nat.le_refl _) _)⟩
      · exact HT3.out.b.trans (h4.setCell (p := ⟨Bp, 0, none⟩) (Nat.le_refl _) _)
      · exact World.cell?_setCell_same' _ _ _ (by rw [hc4]; rfl)
      · rw [World.frozen?_setCell]; exact hf4
      · exact hOL.kept (fun g hg => hset g (fun e => hvB (by rw [hg, e]))) (fun b hb => hset b (by have : b < n₀ := hb; omega)) (fun _ x => x)
      · exact ho1.kept (fun g hg => hall g (hov g hg).1 (hov g hg).2.1 (by have := (hov g hg).2.2; omega)) (fun b hb => hall b (ho2 b hb).1 (ho2 b hb).2.2.1 (ho2 b hb).2.2.2) (fun _ x => x)
      · obtain ⟨q1, q2, q3, q4⟩ := ho2 b hb
        exact ⟨by rw [hsz]; omega, q2, hnew b q1 q3, q4⟩
      · intro g hg hg2
        exact hnew g (hov g hg2).1 (hov g hg2).2.1 hg
      · exact (hall b (by omega) h3 h2).trans ((HF3.out.block b (by omega)).trans ((HB2.out.block b (by omega)).trans (HF1.out.block b h1)))
    rw [show (S ++ [x]).length = S.length + 1 from by simp] at hfin hvb
    have HFIN := Lib.hid hfin
    have HVB := Lib.hid hvb
    clear hown hgr hv hbl hvb hfin
    go_wp2
    go_ret
    exact .inr ⟨HQ.out, rfl, _, HFIN.out.1, HVB.out, HFIN.out.2.1, HFIN.out.2.2⟩
/-! ### Tidy -/
theorem TdS.grow {n₀ Bp k g cap : Nat} {S O : List LV} {sv ov : Value} {w w4 uf w8 : World} {ob : Obj} {z : LV} (hT : TdS n₀ Bp S O sv ov w w4) (hn : n₀ ≤ Bp) (hB : Below w4.heap.size w4 uf) (hz : IsLvp (fun b => b < n₀ ∨ w4.heap.size ≤ b ∧ b < uf.heap.size) uf z) (hk : O.length = k)
    (hown : w8.ownsRow (Bp + 1) 30 5 (.slice (some ⟨g, 0, none⟩) (k + 1) cap) (k + 1) (lcells O ++ z.cells)) (hgrow : (uf.alloc ob).grownBy w8 ov.ownBlock) (hat : ov.ownBlock = some g ∨ g = uf.heap.size + 1) :
    TdS n₀ Bp S (O ++ [z]) sv (.slice (some ⟨g, 0, none⟩) (k + 1) cap) w w8 := by
  have hsz : (uf.alloc ob).heap.size = uf.heap.size + 1 := by simp
  have hz8 := hgrow.size
  have hbs := hB.size
  have hz4 := hT.z
  obtain ⟨ok, ho1, ho2⟩ := hT.o
  have hbu : ∀ b, b < uf.heap.size → ov.ownBlock ≠ some b → w8.heap[b]? = uf.heap[b]? := fun b h1 h2 => (hgrow.block b (by omega) (fun e => h2 e.symm)).trans (Below.heap_alloc _ _ _ h1)
  have hbk : ∀ b, b < w4.heap.size → ov.ownBlock ≠ some b → w8.heap[b]? = w4.heap[b]? := fun b h1 h2 => (hbu b (by omega) h2).trans (hB.block b h1)
  have hoB : ov.ownBlock ≠ some Bp := fun e => by have := (ho1.block e).1; omega
  have hon : ∀ b, b < n₀ → ov.ownBlock ≠ some b := fun b hb e => by have := (ho1.block e).1; omega
  have hou : ∀ b, w4.heap.size ≤ b → ov.ownBlock ≠ some b := fun b hb e => by have := (ho1.block e).2; omega
  have hsn : ∀ b, b < n₀ → sv.ownBlock ≠ some b := fun b hb e => by have := (hT.s.block e).1; omega
  have hsu : ∀ b, w4.heap.size ≤ b → sv.ownBlock ≠ some b := fun b hb e => by have := (hT.s.block e).2; omega
  have hgn : ∀ b, b < uf.heap.size → ov.ownBlock ≠ some b → (Value.slice (some ⟨g, 0, none⟩) (k + 1) cap).ownBlock ≠ some b := fun b h1 h2 e => by
    have e' : g = b := by simpa [Value.ownBlock] using e
    subst e'
    rcases hat with hat | hat
    · exact h2 hat
    · omega
  refine ⟨?_, by omega, ?_, ?_, ?_, ⟨fun b => ok b ∨ b < n₀ ∨ w4.heap.size ≤ b ∧ b < uf.heap.size, ⟨?_, fun y hy => ?_⟩, fun b hb => ?_⟩, fun b hb => ?_⟩
  · have h1 : Below Bp w4 (uf.alloc ob) := (hB.mono (by omega)).alloc (by omega) _
    exact hT.b.trans (h1.trans ((Below.refl Bp _).grown hgrow (by omega) (fun q hq => by have := (ho1.block hq).1; omega)))
  · exact (World.cell?_of_block (a := ⟨Bp, 0, none⟩) (hbk Bp hz4 hoB)).trans hT.c
  · exact (World.frozen?_of_block (a := ⟨Bp, 0, none⟩) (hbk Bp hz4 hoB)).trans hT.f
  · exact hT.s.kept (fun b hb => hbk b (hT.s.block hb).2 (hT.ne b hb)) (fun b hb => hbk b (by have : b < n₀ := hb; omega) (hon b hb)) (fun _ x => x)
  · rw [lcells_append, List.length_append, hk]
    simpa [lcells] using hown
  · rcases List.mem_append.1 hy with hy | hy
    · exact (ho1.2 y hy).keep (fun b hb => hbk b (ho2 b hb).1 (ho2 b hb).2.1) (fun b hb => .inl hb)
    · simp at hy; subst hy
      exact hz.keep (fun b hb => hbu b (by omega) (by rcases hb with h | h; exact hon b h; exact hou b h.1)) (fun b hb => .inr hb)
  · rcases hb with hb | hb | hb
    · obtain ⟨q1, q2, q3, q4⟩ := ho2 b hb
      exact ⟨by omega, hgn b (by omega) q2, q3, q4⟩
    · exact ⟨by omega, hgn b (by omega) (hon b hb), hsn b hb, by omega⟩
    · exact ⟨by omega, hgn b hb.2 (hou b hb.1), hsu b hb.1, by omega⟩
  · have h1 := (hT.s.block hb).2
    exact hgn b (by omega) (hT.ne b hb)
set_option maxRecDepth 100000 in
theorem firsts_any (w : World) : Calls Try.prog 13 #[] w fun e w' => e = .returned (.func (.func 29) #[] #[.pointer (some ⟨w.heap.size, 0, none⟩)]) ∧ w' = w.alloc (.cells #[.slice none 0 0] 22) := by
  go_enter Try.func13, Try.ntmps13
  go_wp2
  go_ret
  exact ⟨rfl, rfl⟩
def TdI (P : List LV) (n₀ : Nat) (w : World) (ov i : Value) (wr : World) : Prop :=
  ∃ (k : Nat) (S O : List LV) (sv : Value), k ≤ P.length ∧ i = .int .i64 k ∧ t3s S = tidy ((t3s P).take k) ∧ t3s O = tidy ((t3s P).take k) ∧ (∀ y ∈ S, y ∈ P) ∧ TdS n₀ w.heap.size S O sv ov w wr
theorem tidy_len (c : List Lt3) (k : Nat) : (tidy (c.take k)).length ≤ c.length := by
  have h : ∀ (c out : List Lt3), (c.foldl tidS out).length ≤ out.length + c.length := by
    intro c
    induction c with
    | nil => intro out; simp
    | cons x c ih =>
      intro out
      have h1 : (tidS out x).length ≤ out.length + 1 := by unfold tidS; split <;> simp
      have := ih (tidS out x)
      simp only [List.foldl_cons, List.length_cons]
      omega
  have := h (c.take k) []
  simp only [tidy, List.length_take, List.length_nil] at *
  omega
set_option maxRecDepth 100000 in
set_option maxHeartbeats 8000000 in
theorem tidy_any (P : List LV) (hl : P.length ≤ 1000000) (hsz : ∀ x ∈ P, x.sz) (n₀ : Nat) (a : Option Addr) (c : Nat) (w : World) (hn : n₀ ≤ w.heap.size) (hP : IsCl n₀ w P a c) :
    Calls Try.prog 5 #[.slice a P.length c] w fun e w' => ∃ (O : List LV) (p : Option Addr) (c' : Nat), t3s O = tidy (t3s P) ∧ e = .returned (.slice p O.length c') ∧ IsCl w'.heap.size w' O p c' ∧ Below w.heap.size w w' := by
  have hlc : P.length ≤ c ∧ c ≤ maxLen := ⟨hP.1, hP.2.1⟩
  unfold maxLen at hlc
  obtain ⟨hl1, hl2⟩ := hlc
  have HP := Lib.hid hP
  have HSZ := Lib.hid hsz
  have HN := Lib.hid hn
  clear hP hsz
  obtain ⟨i0, hi, hz0, hz1, hz2⟩ := info_parts infoLit
  have eg := enters_of Try.func29 (by kernel_rfl) rfl
  go_enter Try.func5, Try.ntmps5
  go_wp2_with fail
  refine (firsts_any w).mono ?_
  rintro e w1 ⟨rfl, hw1⟩
  have HT0 := Lib.hid (show TdS n₀ w.heap.size [] [] (.slice none 0 0) (.slice none 0 0) w w1 from by
    rw [hw1]
    exact ⟨(Below.refl _ _).alloc (Nat.le_refl _) _, by simp, by simp [go_sem], by simp [go_sem], OL.nil _ _ _, ⟨fun _ => False, OL.nil _ _ _, fun _ h => h.elim⟩, fun g hg => by simp [Value.ownBlock] at hg⟩)
  clear hw1
  go_wp2
  go_loopw [3, 10] (fun ov i wr => TdI P n₀ w ov i wr) (fun _ i _ => P.length - (intOf i).toNat)
  case atStart => exact ⟨0, [], [], _, Nat.zero_le _, rfl, rfl, rfl, by simp, HT0.out⟩
  case round =>
    obtain ⟨k, S, O, sv, hk, rfl, hS, hO, hSP, hT⟩ := hrel
    have HS := Lib.hid hS
    have HO := Lib.hid hO
    have HSP := Lib.hid hSP
    have HT := Lib.hid hT
    have hTz := hT.z
    clear hS hO hSP hT HT0
    by_cases hlt : k < P.length
    · obtain ⟨b, o, x, rfl, hb, hx, ⟨a0, a1, a2, a3, a4⟩, hxl⟩ := (HP.out.below (HT.out.b.mono HN.out)).elem (i := k) hlt
      have hxs := HSZ.out x (List.mem_of_getElem? hx)
      have hk0 : (0 : Int) ≤ (k : Int) := Int.natCast_nonneg _
      have hk1 : (k : Int) < (P.length : Int) := by omega
      have hnn := HN.out
      have hbw : b < wr.heap.size := by omega
      obtain ⟨W2, hW2⟩ : ∃ W2, wr.alloc x.obj = W2 := ⟨_, rfl⟩
      have hs2 : W2.heap.size = wr.heap.size + 1 := by rw [← hW2]; simp
      have hF2 : Below wr.heap.size wr W2 := by rw [← hW2]; exact (Below.refl _ wr).alloc (Nat.le_refl _) _
      have L2 := (show Later (Lc wr.heap.size x) W2 from by rw [← hW2]; exact later_lc wr x)
      have hx2 : IsLv n₀ W2 x := hxl.below (hF2.mono (by omega))
      have CN := Lib.hid (never_any x hxs n₀ W2 (by omega) hx2)
      have HT2 := Lib.hid (HT.out.later hn hF2)
      have HL2 := Lib.hid L2
      have HX := Lib.hid (tidy_snoc (t3s_get hx))
      have HXM := Lib.hid (List.mem_of_getElem? hx)
      have HX2 := Lib.hid hx2
      have HSV := Lib.hid (show sv.ownBlock ≠ some wr.heap.size from fun e => by have := (HT.out.s.block e).2; omega)
      obtain ⟨l0, l1, l2, l3, l4⟩ := L2.now
      clear hx hxl hF2 L2 hx2
      go_wp2_with fail
      refine CN.out.mono ?_
      rintro e w3 ⟨rfl, hb3⟩
      have HT3 := Lib.hid (HT2.out.later hn hb3)
      have hz3 := hb3.size
      have HL3 := Lib.hid (HL2.out w3 hb3)
      have HX3 := Lib.hid (HX2.out.below (hb3.mono (by omega)))
      have HB3 := Lib.hid hb3
      clear hb3 CN HT2 l0 l1 l2 l3 l4 a0 a1 a2 a3 a4 hW2
      cases hv : voidL x.t3 with
      | true =>
        have HE := Lib.hid (show tidy ((t3s P).take (k + 1)) = tidy ((t3s P).take k) from by
          rw [HX.out]
          unfold tidS dropL
          rw [hv]; rfl)
        clear hv
        go_wp2
        go_roundw
        case rel => exact ⟨k + 1, S, O, sv, by omega, by go_num, by rw [HE.out]; exact HS.out, by rw [HE.out]; exact HO.out, HSP.out, HT3.out⟩
        case measure => simp [intOf]; omega
      | false =>
        have HV := Lib.hid hv
        clear hv
        have hSl : S.length ≤ 1000000 := by
          have h1 := congrArg List.length HS.out
          have h2 := tidy_len (t3s P) k
          rw [← h1] at h2
          simp at h2; omega
        have CF := Lib.hid (first1_any n₀ w.heap.size S O x hSl (fun y hy => HSZ.out y (HSP.out y hy)) sv u3 w w3 hn HT3.out HX3.out)
        obtain ⟨l0, l1, l2, l3, l4⟩ := HL3.out
        clear hSl
        go_wp2_with fail
        refine CF.out.mono ?_
        rintro e w4 hF
        clear l0 l1 l2 l3 l4 CF
        rcases hF with ⟨hq, rfl, hT4, hfr⟩ | ⟨hq, rfl, sv', hT4, hsv', hfr, hb4⟩
        · have HE := Lib.hid (show tidy ((t3s P).take (k + 1)) = tidy ((t3s P).take k) from by
            rw [HX.out]
            unfold tidS dropL
            rw [HV.out, ← HS.out, hq]; rfl)
          have HT4 := Lib.hid hT4
          clear hq hT4 hfr
          go_wp2
          go_roundw
          case rel => exact ⟨k + 1, S, O, sv, by omega, by go_num, by rw [HE.out]; exact HS.out, by rw [HE.out]; exact HO.out, HSP.out, HT4.out⟩
          case measure => simp [intOf]; omega
        · have HE := Lib.hid (show tidy ((t3s P).take (k + 1)) = tidy ((t3s P).take k) ++ [x.t3] from by
            rw [HX.out]
            unfold tidS dropL
            rw [HV.out, ← HS.out, hq]; rfl)
          have HT4 := Lib.hid hT4
          have hz4 := hT4.b.size
          have hBz := hT4.z
          have KP := Lib.hid (show ∀ W, Below w4.heap.size w4 W → Lc wr.heap.size x W from fun W hW => by
            have e : ∀ i, W.cell? ⟨wr.heap.size, i, none⟩ = w3.cell? ⟨wr.heap.size, i, none⟩ := fun i =>
              World.cell?_of_block (a := ⟨wr.heap.size, i, none⟩) ((hW.block _ (by
                have h5 := hfr wr.heap.size (by omega) (by omega) HSV.out
                have h6 : (w3.heap[wr.heap.size]?).isSome := by rw [Array.getElem?_eq_getElem (by omega)]; rfl
                rw [← h5] at h6
                obtain ⟨y, hy⟩ := Option.isSome_iff_exists.1 h6
                exact (Array.getElem?_eq_some_iff.1 hy).1)).trans (hfr wr.heap.size (by omega) (by omega) HSV.out))
            obtain ⟨l0, l1, l2, l3, l4⟩ := HL3.out
            exact ⟨(e _).trans l0, (e _).trans l1, (e _).trans l2, (e _).trans l3, (e _).trans l4⟩)
          have hz34 := hb4.size
          have HX4 := Lib.hid (show ∀ W, Below w4.heap.size w4 W → IsLv n₀ W x ∧ n₀ ≤ W.heap.size from fun W hW => ⟨HX3.out.below ((hb4.mono hn).trans (hW.mono (by omega))), by have := hW.size; omega⟩)
          have HSP2 := Lib.hid (show ∀ y ∈ S ++ [x], y ∈ P from fun y hy => by
            rcases List.mem_append.1 hy with hy | hy
            · exact HSP.out y hy
            · simp at hy; subst hy; exact HXM.out)
          have HS2 := Lib.hid (show t3s (S ++ [x]) = tidy ((t3s P).take (k + 1)) from by rw [HE.out, ← HS.out]; simp)
          have CL := Lib.hid (fun (W : World) (hW : Below w4.heap.size w4 W) => show Calls Try.prog 15 #[tm x.l.head x.pa x.l.args.length x.ca] W (fun e u => ∃ a2 c2, e = .returned (tm x.l.head a2 x.l.args.length c2) ∧ IsArgsp (fun b => b < n₀ ∨ W.heap.size ≤ b ∧ b < u.heap.size) u x.l.args a2 c2 ∧ Below W.heap.size W u) from owned_any x.l hxs.1 n₀ x.pa x.ca W (HX4.out W hW).2 (HX4.out W hW).1.lw (HX4.out W hW).1.la)
          have CR := Lib.hid (fun (W : World) (hW : Below w4.heap.size w4 W) => show Calls Try.prog 15 #[tm x.r.head x.pb x.r.args.length x.cb] W (fun e u => ∃ a2 c2, e = .returned (tm x.r.head a2 x.r.args.length c2) ∧ IsArgsp (fun b => b < n₀ ∨ W.heap.size ≤ b ∧ b < u.heap.size) u x.r.args a2 c2 ∧ Below W.heap.size W u) from owned_any x.r hxs.2 n₀ x.pb x.cb W (HX4.out W hW).2 (HX4.out W hW).1.rw (HX4.out W hW).1.ra)
          obtain ⟨ok, ho1, _⟩ := hT4.o
          have hown := ho1.1
          obtain ⟨m, hm⟩ : ∃ m, O.length = m := ⟨_, rfl⟩
          have hml : m ≤ k := by
            have h1 := congrArg List.length HO.out
            have h2 : (tidy ((t3s P).take k)).length ≤ ((t3s P).take k).length := by have := tidy_len ((t3s P).take k) ((t3s P).take k).length; rwa [List.take_length] at this
            rw [← h1] at h2
            simp at h2; omega
          rw [hm] at hown
          have HOWN := Lib.hid hown
          have HM := Lib.hid hm
          have hmm : m + 1 ≤ maxLen := by unfold maxLen; omega
          have hD4 : Below w4.heap.size w4 w4.drew := (Below.refl _ _).drew
          have HWF := Lib.hid (And.intro HX3.out.lw HX3.out.rw)
          obtain ⟨l0, l1, l2, l3, l4⟩ := KP.out w4 (Below.refl _ _)
          clear hT4 ho1 hown hm hfr hb4 hq hsv'
          go_wp2
          go_region_law (first
            | (refine step_append_lies _ (by rfl) _ _ _ (by rfl) (w.heap.size + 1) 30 i0 _ 5 72 Try.underlying22 hi hz0 hz1 hz2 rfl (by omega) u3 m (lcells O) (by rfl) ((ownsRow_later HOWN.out hBf).alloc _) ⟨uf.heap.size, 0, none⟩ 1 1 [.bool x.n, .int .i64 x.l.head, .slice aL x.l.args.length cL, .int .i64 x.r.head, .slice aR x.r.args.length cR] (by rfl) (by rfl) (World.news_of_block (cs := #[.bool x.n, .int .i64 x.l.head, .slice aL x.l.args.length cL, .int .i64 x.r.head, .slice aR x.r.args.length cR]) (t := 30) (fr := (0, 0)) (heap_alloc_new uf _)) (by simp [Value.oneCell']) (by omega) hmm (by omega) (by simp; omega) (uf.heap.size + 1) (by simp) ?_; intro g cap w8 hown8 hgrow8 hat8 hlt8)
            | (go_simp; go_at_call 15; (with_reducible refine (CL.out _ hD4).mono ?_); rintro e u1 ⟨aL, cL, rfl, hIL, hb1⟩; have hB1 : Below w4.heap.size w4 u1 := ⟨hb1.os, hb1.tape, hb1.output, hb1.size, hb1.block⟩; obtain ⟨l0, l1, l2, l3, l4⟩ := KP.out u1 hB1; have hzL := hB1.size)
            | (go_simp; go_at_call 15; (with_reducible refine (CR.out _ hB1).mono ?_); rintro e uf ⟨aR, cR, rfl, hIR, hb2⟩; have hBf : Below w4.heap.size w4 uf := hB1.trans (hb2.mono hB1.size); have hzf := hBf.size; obtain ⟨l0, l1, l2, l3, l4⟩ := KP.out uf hBf; have hIL' := hIL.keep (ok' := fun b => b < n₀ ∨ w4.heap.size ≤ b ∧ b < uf.heap.size) (fun b hb => hb2.block b (by have := hzL; rcases hb with h | h; omega; exact h.2)) (fun b hb => by have := hb2.size; rcases hb with h | h; exact .inl h; exact .inr ⟨h.1, by omega⟩); have hIR' := hIR.keep (ok' := fun b => b < n₀ ∨ w4.heap.size ≤ b ∧ b < uf.heap.size) (fun _ _ => rfl) (fun b hb => by rcases hb with h | h; exact .inl h; exact .inr ⟨Nat.le_trans hzL h.1, h.2⟩))
            | (go_simp; go_at_call 15; (with_reducible refine (CR.out _ hD4).mono ?_); rintro e v1 ⟨aR, cR, rfl, hIR, hb1⟩; have hB1' : Below w4.heap.size w4 v1 := ⟨hb1.os, hb1.tape, hb1.output, hb1.size, hb1.block⟩; obtain ⟨l0, l1, l2, l3, l4⟩ := KP.out v1 hB1'; have hzR := hB1'.size)
            | (go_simp; go_at_call 15; (with_reducible refine (CL.out _ hB1').mono ?_); rintro e uf ⟨aL, cL, rfl, hIL, hb2⟩; have hBf : Below w4.heap.size w4 uf := hB1'.trans (hb2.mono hB1'.size); have hzf := hBf.size; obtain ⟨l0, l1, l2, l3, l4⟩ := KP.out uf hBf; have hIR' := hIR.keep (ok' := fun b => b < n₀ ∨ w4.heap.size ≤ b ∧ b < uf.heap.size) (fun b hb => hb2.block b (by have := hzR; rcases hb with h | h; omega; exact h.2)) (fun b hb => by have := hb2.size; rcases hb with h | h; exact .inl h; exact .inr ⟨h.1, by omega⟩); have hIL' := hIL.keep (ok' := fun b => b < n₀ ∨ w4.heap.size ≤ b ∧ b < uf.heap.size) (fun _ _ => rfl) (fun b hb => by rcases hb with h | h; exact .inl h; exact .inr ⟨Nat.le_trans hzR h.1, h.2⟩)))
          all_goals
            have HN4 := Lib.hid (HT4.out.grow (z := ⟨x.n, x.l, x.r, aL, cL, aR, cR⟩) hn hBf ⟨HWF.out.1, HWF.out.2, hIL', hIR'⟩ HM.out hown8 hgrow8 hat8)
            have HO2 := Lib.hid (show t3s (O ++ [⟨x.n, x.l, x.r, aL, cL, aR, cR⟩]) = tidy ((t3s P).take (k + 1)) from by rw [HE.out, ← HO.out]; simp [LV.t3])
            clear hown8 hgrow8 hat8 hlt8 hIL' hIR'
            go_wp2
            go_roundw
            case rel => exact ⟨k + 1, S ++ [x], O ++ [⟨x.n, x.l, x.r, aL, cL, aR, cR⟩], sv', by omega, by go_num, HS2.out, HO2.out, HSP2.out, HN4.out⟩
            case measure => simp [intOf]; omega
    · obtain rfl : k = P.length := by omega
      obtain ⟨ok, ho1, ho2⟩ := HT.out.o
      obtain ⟨p, c', rfl, hR⟩ := ho1.args (fun b hb => (ho2 b hb).1)
      have HR := Lib.hid hR
      have HE := Lib.hid (show t3s O = tidy (t3s P) from by
        have h := HO.out
        rwa [List.take_of_length_le (by simp)] at h)
      clear hR ho1 ho2
      go_wp2
      go_ret
      exact ⟨O, p, c', HE.out, rfl, HR.out, HT.out.b⟩
end Go.Proofs.Ytbdabdjpgmnejaa

/- Kit for walks of examples whose regions draw their order: cells, boxes and worlds carried through allocations, draws and calls. -/
namespace Go.Proofs.Ytbdabdjpgmnejaa
set_option linter.unusedVariables false
set_option linter.unusedSimpArgs false
open Go.RowKit
theorem funk_any (h : Int) (a : Option Addr) (k c : Nat) (w : World) : Calls Try.prog 19 #[.int .i64 h, .slice a k c] w fun e u =>
    e = .returned (tm h a k c) ∧ (∀ b o, b < w.heap.size → u.cell? ⟨b, o, none⟩ = w.cell? ⟨b, o, none⟩) ∧ (∀ b o, b < w.heap.size → u.frozen? ⟨b, o, none⟩ = w.frozen? ⟨b, o, none⟩) ∧ w.heap.size ≤ u.heap.size ∧ Hid (Below w.heap.size w u) :=
  (fun_any h a k c w).mono fun e u ⟨he, hb⟩ => ⟨he, fun b o hbo => hb.cell (p := ⟨b, o, none⟩) hbo, fun b o hbo => hb.frozen (p := ⟨b, o, none⟩) hbo, hb.size, Lib.hid hb⟩
theorem Cs.new' {W : World} {b : Nat} {cs : List Value} {ty : TypeId} (h : W.heap.size = b) : Cs b cs (W.alloc (.cells cs.toArray ty)) := by
  subst h; exact (later_cs W cs.toArray ty).now
theorem Cs.bl {W X : World} {b : Nat} {cs : List Value} (h : Cs b cs W) (hb : Below W.heap.size W X) : Cs b cs X :=
  ⟨Nat.lt_of_lt_of_le h.1 hb.size, fun i u hu => (hb.cell (p := ⟨b, i, none⟩) h.1).trans (h.2 i u hu)⟩
theorem Cs.al {W : World} {b : Nat} {cs : List Value} (h : Cs b cs W) (ob : Obj) : Cs b cs (W.alloc ob) := h.bl ((Below.refl _ _).alloc (Nat.le_refl _) _)
theorem Cs.dr {W : World} {b : Nat} {cs : List Value} (h : Cs b cs W) : Cs b cs W.drew := h
theorem Cs.set {W : World} {b b' o : Nat} {cs : List Value} {u : Value} (h : Cs b cs W) (hne : b ≠ b') : Cs b cs (W.setCell ⟨b', o, none⟩ u) :=
  ⟨by simpa using h.1, fun i v hv => by rw [World.cell?_setCell_other _ _ _ _ (by intro e; injection e with e1 _ _; exact hne e1.symm)]; exact h.2 i v hv⟩
theorem csHave {P : Prop} {W X : World} {b : Nat} {cs : List Value} (h : Cs b cs W) (hb : Below W.heap.size W X) (k : Hid (Cs b cs X) → P) : P := k (Lib.hid (h.bl hb))
theorem blAl {A W : World} (h : Below A.heap.size A W) (ob : Obj) : Below A.heap.size A (W.alloc ob) := h.alloc h.size ob
theorem blDr {A W : World} (h : Below A.heap.size A W) : Below A.heap.size A W.drew := ⟨h.os, h.tape, h.output, h.size, h.block⟩
theorem blHave {P : Prop} {A W X : World} (h : Below A.heap.size A W) (hb : Below W.heap.size W X) (k : Hid (Below A.heap.size A X) → P) : P := k (Lib.hid (h.trans (hb.mono h.size)))
end Go.Proofs.Ytbdabdjpgmnejaa

/- Small contracts for examples: a variable, a literal turned, the signature of $true, a and f. -/
namespace Go.Proofs.Ytbdabdjpgmnejaa
set_option linter.unusedVariables false
set_option linter.unusedSimpArgs false
open Go.RowKit
def g9 : Sg := [sy0, ⟨⟨#[97]⟩, 0, 1, false⟩, ⟨⟨#[102]⟩, 1, 1, false⟩]
def cells9 : List Value := [.string ⟨#[36, 116, 114, 117, 101]⟩, .int .i64 0, .int .i64 1, .bool true, .string ⟨#[97]⟩, .int .i64 0, .int .i64 1, .bool false, .string ⟨#[102]⟩, .int .i64 1, .int .i64 1, .bool false]
theorem g9_mem {b : Nat} {X : World} (h : Cs b cells9 X) : IsSg X.heap.size X g9 (some ⟨b, 0, none⟩) 3 := by
  obtain ⟨h1, h2⟩ := h
  refine ⟨by simp [g9], by simp [maxLen], .inr ⟨b, 0, rfl, h1, fun j x hx => ?_⟩⟩
  match j, hx with
  | 0, hx => simp [g9] at hx; subst hx; exact ⟨⟨by decide, by decide, by decide⟩, h2 0 _ rfl, h2 1 _ rfl, h2 2 _ rfl, h2 3 _ rfl⟩
  | 1, hx => simp [g9] at hx; subst hx; exact ⟨⟨by decide, by decide, by decide⟩, h2 4 _ rfl, h2 5 _ rfl, h2 6 _ rfl, h2 7 _ rfl⟩
  | 2, hx => simp [g9] at hx; subst hx; exact ⟨⟨by decide, by decide, by decide⟩, h2 8 _ rfl, h2 9 _ rfl, h2 10 _ rfl, h2 11 _ rfl⟩
  | j + 3, hx => simp [g9] at hx
def A9 : T := .node 1 []
theorem argsA9 (X : World) : IsArgs X.heap.size X A9.args none 0 := ⟨by simp [A9, T.args], by simp [maxLen], .inl rfl⟩
set_option maxRecDepth 100000 in
set_option maxHeartbeats 1000000 in
theorem turn_any (x : LV) (w : World) : Calls Try.prog 21 #[x.v] w fun e w' => e = .returned x.turn.v ∧ Below w.heap.size w w' := by
  obtain ⟨xn, xl, xr, xpa, xca, xpb, xcb⟩ := x
  have HF := Lib.hid (show Below w.heap.size w ((w.alloc (LV.mk xn xl xr xpa xca xpb xcb).obj).alloc (LV.mk xn xl xr xpa xca xpb xcb).turn.obj) from ((Below.refl _ w).alloc (Nat.le_refl _) _).alloc (by simp) _)
  go_enter Try.func21, Try.ntmps21
  go_wp2
  refine bodyPost_ret (v := (LV.mk xn xl xr xpa xca xpb xcb).turn.v) (by simp [results, Try.results21, go_sem, LV.turn]) rfl ?_
  exact ⟨rfl, HF.out⟩
end Go.Proofs.Ytbdabdjpgmnejaa

/- Variables of type Lit that are written; copies that are kept. -/
namespace Go.Proofs.Ytbdabdjpgmnejaa
set_option linter.unusedVariables false
set_option linter.unusedSimpArgs false
open Go.RowKit
/-- A variable of type Lit: its block. -/
def Bo (b : Nat) (x : LV) (X : World) : Prop :=
  X.heap[b]? = some (.cells #[.bool x.n, .int .i64 x.l.head, .slice x.pa x.l.args.length x.ca, .int .i64 x.r.head, .slice x.pb x.r.args.length x.cb] 30 (0, 0))
theorem Bo.lc {b : Nat} {x : LV} {X : World} (h : Bo b x X) : Lc b x X := by
  unfold Bo at h
  refine ⟨?_, ?_, ?_, ?_, ?_⟩ <;> simp [World.cell?, h]
theorem Bo.lt {b : Nat} {x : LV} {X : World} (h : Bo b x X) : b < X.heap.size := (Array.getElem?_eq_some_iff.1 h).1
/-- The zero literal. -/
def LV.zero : LV := ⟨false, .node 0 [], .node 0 [], none, 0, none, 0⟩
/-! ### What Orient answers -/
/-- A variable of type Lit that holds something. -/
def Zb (b : Nat) (X : World) : Prop := ∃ v0 v1 v2 v3 v4 : Value, X.heap[b]? = some (.cells #[v0, v1, v2, v3, v4] 30 (0, 0))
theorem Zb.bl {b : Nat} {X u : World} (h : Zb b X) (hu : Below X.heap.size X u) : Zb b u := by
  obtain ⟨v0, v1, v2, v3, v4, h⟩ := h
  exact ⟨v0, v1, v2, v3, v4, (hu.block b (Array.getElem?_eq_some_iff.1 h).1).trans h⟩
theorem Zb.sets {b : Nat} {X : World} (h : Zb b X) (u0 u1 u2 u3 u4 : Value) : Zb b (((((X.setCell ⟨b, 0, none⟩ u0).setCell ⟨b, 1, none⟩ u1).setCell ⟨b, 2, none⟩ u2).setCell ⟨b, 3, none⟩ u3).setCell ⟨b, 4, none⟩ u4) := by
  obtain ⟨v0, v1, v2, v3, v4, h⟩ := h
  have h0 := heap_setCell_same (o := 0) h u0
  have h1 := heap_setCell_same (o := 1) h0 u1
  have h2 := heap_setCell_same (o := 2) h1 u2
  have h3 := heap_setCell_same (o := 3) h2 u3
  have h4 := heap_setCell_same (o := 4) h3 u4
  exact ⟨_, _, _, _, _, h4⟩
theorem Zb.dr {b : Nat} {X : World} (h : Zb b X) : Zb b X.drew := h
theorem Zb.all {b : Nat} {X : World} (h : Zb b X) : ∃ v0 v1 v2 v3 v4 : Value, X.cell? ⟨b, 0, none⟩ = some v0 ∧ X.cell? ⟨b, 1, none⟩ = some v1 ∧ X.cell? ⟨b, 2, none⟩ = some v2 ∧ X.cell? ⟨b, 3, none⟩ = some v3 ∧ X.cell? ⟨b, 4, none⟩ = some v4 ∧
    X.frozen? ⟨b, 0, none⟩ = false ∧ X.frozen? ⟨b, 1, none⟩ = false ∧ X.frozen? ⟨b, 2, none⟩ = false ∧ X.frozen? ⟨b, 3, none⟩ = false ∧ X.frozen? ⟨b, 4, none⟩ = false := by
  obtain ⟨v0, v1, v2, v3, v4, h⟩ := h
  refine ⟨v0, v1, v2, v3, v4, ?_, ?_, ?_, ?_, ?_, ?_, ?_, ?_, ?_, ?_⟩ <;> simp [World.cell?, World.frozen?, h]
theorem Zb.new (W : World) (v0 v1 v2 v3 v4 : Value) : Zb W.heap.size (W.alloc (.cells #[v0, v1, v2, v3, v4] 30)) := ⟨v0, v1, v2, v3, v4, by
  show (W.heap.push _)[W.heap.size]? = _
  simp⟩
theorem Zb.lt {b : Nat} {X : World} (h : Zb b X) : b < X.heap.size := by
  obtain ⟨_, _, _, _, _, h⟩ := h
  exact (Array.getElem?_eq_some_iff.1 h).1
/-- A literal that was laid into a variable. -/
theorem Zb.lc {b : Nat} {X : World} (h : Zb b X) (z : LV) : Lc b z (((((X.setCell ⟨b, 0, none⟩ (.bool z.n)).setCell ⟨b, 1, none⟩ (.int .i64 z.l.head)).setCell ⟨b, 2, none⟩ (.slice z.pa z.l.args.length z.ca)).setCell ⟨b, 3, none⟩ (.int .i64 z.r.head)).setCell ⟨b, 4, none⟩ (.slice z.pb z.r.args.length z.cb)) := by
  obtain ⟨v0, v1, v2, v3, v4, h⟩ := h
  have h0 := heap_setCell_same (o := 0) h (.bool z.n)
  have h1 := heap_setCell_same (o := 1) h0 (.int .i64 z.l.head)
  have h2 := heap_setCell_same (o := 2) h1 (.slice z.pa z.l.args.length z.ca)
  have h3 := heap_setCell_same (o := 3) h2 (.int .i64 z.r.head)
  have h4 := heap_setCell_same (o := 4) h3 (.slice z.pb z.r.args.length z.cb)
  exact Bo.lc h4
end Go.Proofs.Ytbdabdjpgmnejaa
