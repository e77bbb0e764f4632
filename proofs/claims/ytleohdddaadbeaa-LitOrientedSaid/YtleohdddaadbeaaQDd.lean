/- QDd: joined of RSb, RAp. -/
import Derived.Test.YtleohdddaadbeaaQDc
import Derived.Test.YtleohdddaadbeaaQBf
/- Contract of the reference's Put (a term with all put). -/
namespace Go.Proofs.Ytleohdddaadbeaa
set_option linter.unusedVariables false
set_option linter.unusedSimpArgs false
open Go.RowKit

def okS3 (n₀ : Nat) (w : World) (v : Value) (wr : World) (b : Nat) : Prop := b < n₀ ∨ (w.heap.size + 3 ≤ b ∧ b < wr.heap.size ∧ v.ownBlock ≠ some b)
def SubI (h : Int) (ts : List T) (n₀ : Nat) (w w3 : World) (i : Value) (wr : World) : Prop :=
  ∃ (k : Nat) (v : Value) (xs : List Value), k ≤ ts.length ∧ i = .int .i64 k ∧ wr.heap[w.heap.size + 2]? = some (.cells #[.int .i64 h, v] 25 (0, 0)) ∧
    wr.ownsRow (w.heap.size + 3) 25 2 v k xs ∧ RowVals (okS3 n₀ w v wr) wr (ts.take k) xs ∧ Below (w.heap.size + 2) w3 wr

theorem sub_step {h : Int} {ts : List T} {n₀ : Nat} {s : T} {w w3 wr w4 w5 : World} {k : Nat} {v : Value} {xs : List Value} {a2 : Option Addr} {c2 g5 cap5 : Nat} {ob : Obj} (hn : n₀ ≤ w.heap.size) (hs : ts[k]? = some s) (hsw : (Lit.int .i64 s.head).wf = true)
    (hout : wr.heap[w.heap.size + 2]? = some (.cells #[.int .i64 h, v] 25 (0, 0))) (hown : wr.ownsRow (w.heap.size + 3) 25 2 v k xs) (hrv : RowVals (okS3 n₀ w v wr) wr (ts.take k) xs)
    (hB : Below (w.heap.size + 2) w3 wr) (hz : w.heap.size + 3 ≤ wr.heap.size) (hI4 : IsArgsp (fun b => b < n₀ ∨ wr.heap.size ≤ b ∧ b < w4.heap.size) w4 s.args a2 c2) (hB4 : Below wr.heap.size wr w4)
    (hown5 : w5.ownsRow (w.heap.size + 3) 25 2 (.slice (some ⟨g5, 0, none⟩) (k + 1) cap5) (k + 1) (xs ++ [.int .i64 s.head, .slice a2 s.args.length c2])) (hgrow5 : (w4.alloc ob).grownBy w5 v.ownBlock)
    (hat5 : v.ownBlock = some g5 ∨ g5 = w4.heap.size + 1) :
    SubI h ts n₀ w w3 (.int .i64 ((k + 1 : Nat) : Int)) (w5.setCell ⟨w.heap.size + 2, 1, none⟩ (.slice (some ⟨g5, 0, none⟩) (k + 1) cap5)) := by
  obtain ⟨hk, hks⟩ := List.getElem?_eq_some_iff.1 hs
  have hz4 : wr.heap.size ≤ w4.heap.size := hB4.size
  have hz5 : w4.heap.size + 1 ≤ w5.heap.size := by have := hgrow5.size; simpa using this
  have hlt := hown.lt
  have hbk : ∀ b, b < w4.heap.size → v.ownBlock ≠ some b → b ≠ w.heap.size + 2 → (w5.setCell ⟨w.heap.size + 2, 1, none⟩ (.slice (some ⟨g5, 0, none⟩) (k + 1) cap5)).heap[b]? = w4.heap[b]? := fun b h1 h2 h3 =>
    (Below.heap_setCell _ _ _ _ h3).trans ((hgrow5.block b (by simp; omega) (fun e => h2 e.symm)).trans (Below.heap_alloc _ _ _ h1))
  have hg5 : ∀ b, b < w4.heap.size → v.ownBlock ≠ some b → g5 ≠ b := fun b h1 h2 e => by
    subst e
    rcases hat5 with h | h
    · exact h2 h
    · omega
  have hlow : ∀ b, b < n₀ → v.ownBlock ≠ some b := fun b hb e => by have := hlt _ e; omega
  refine ⟨k + 1, _, _, by omega, rfl, ?_, ownsRow_setCell_below hown5 (by simp) _, ?_, ?_⟩
  · have h5 : w5.heap[w.heap.size + 2]? = some (.cells #[.int .i64 h, v] 25 (0, 0)) :=
      ((hgrow5.block _ (by simp; omega) (fun e => by have := hlt _ e.symm; omega)).trans ((Below.heap_alloc _ _ _ (by omega)).trans (hB4.block _ (by omega)))).trans hout
    rw [heap_setCell_same h5]
    rfl
  · rw [List.take_succ_eq_append_getElem hk, hks]
    refine RowVals.snoc hsw (hI4.keep (fun b hb => ?_) (fun b hb => ?_)) (hrv.keep (fun b hb => ?_) (fun b hb => ?_))
    · rcases hb with hb | hb
      · exact hbk b (by omega) (hlow b hb) (by omega)
      · exact hbk b hb.2 (fun e => by have := hlt _ e; omega) (by omega)
    · rcases hb with hb | hb
      · exact .inl hb
      · exact .inr ⟨by omega, by show b < _; simp; omega, fun e => hg5 b hb.2 (fun e => by have := hlt _ e; omega) (by simpa [Value.ownBlock] using e)⟩
    · rcases hb with hb | hb
      · exact (hbk b (by omega) (hlow b hb) (by omega)).trans (hB4.block b (by omega))
      · exact (hbk b (by have := hb.2.1; omega) hb.2.2 (by have := hb.1; omega)).trans (hB4.block b hb.2.1)
    · rcases hb with hb | hb
      · exact .inl hb
      · exact .inr ⟨hb.1, by show b < _; have := hb.2.1; simp; omega, fun e => hg5 b (by have := hb.2.1; omega) hb.2.2 (by simpa [Value.ownBlock] using e)⟩
  · exact (hB.trans (((hB4.mono (by omega)).alloc (by omega) ob).grown hgrow5 (by simp; omega) (fun k hk => by have := hlt k hk; omega))).setCell (p := ⟨w.heap.size + 2, 1, none⟩) (by simp) _


set_option maxRecDepth 100000 in
set_option maxHeartbeats 4000000 in
theorem refSub_any (s : Sb) : ∀ (N : Nat) (t : T), t.size ≤ N → t.size ≤ 1000000000000 → ∀ (n₀ : Nat) (a : Option Addr) (c : Nat) (as_ : Option Addr) (cs : Nat) (w : World), n₀ ≤ w.heap.size → (Lit.int .i64 t.head).wf = true → IsArgs n₀ w t.args a c → IsBs n₀ w s as_ cs →
    Calls Try.prog 63 #[.slice as_ s.length cs, tm t.head a t.args.length c] w (RPutPost (t.sub (ofS s)) n₀ w) := by
  intro N
  induction N with
  | zero => intro t ht; have := T.size_pos t; omega
  | succ N ih =>
    intro t ht hbig n₀ a c as_ cs w hn hwf hA hS
    have IH := Lib.hid ih
    have HWF := Lib.hid hwf
    have hsz := T.size_eq t
    have hlz := T.sizes_ge_length t.args
    have hlc : t.args.length ≤ c ∧ c ≤ maxLen := ⟨hA.1, hA.2.1⟩
    unfold maxLen at hlc
    obtain ⟨hl1, hl2⟩ := hlc
    obtain ⟨hw1, hw2⟩ := wf_low hwf
    have HS := Lib.hid hsz
    have hlen : t.args.length ≤ 1000000000000 := by omega
    have HA := Lib.hid hA
    have HSB := Lib.hid hS
    clear ih hwf hA hsz hlz hS
    obtain ⟨w2, hw2'⟩ : ∃ w2, (w.alloc (tmCells t.head a t.args.length c)).alloc (tmCells 0 none 0 0) = w2 := ⟨_, rfl⟩
    have hB2 : Below w.heap.size w w2 := by rw [← hw2']; exact ((Below.refl _ w).alloc (Nat.le_refl _) _).alloc (by simp) _
    have hs2 : w2.heap.size = w.heap.size + 2 := by rw [← hw2']; simp
    have L2 := Lib.hid (show ∀ W, Below (w.heap.size + 2) w2 W → W.cell? ⟨w.heap.size, 0, none⟩ = some (.int .i64 t.head) ∧ W.cell? ⟨w.heap.size, 1, none⟩ = some (.slice a t.args.length c) ∧ W.cell? ⟨w.heap.size + 1, 0, none⟩ = some (.int .i64 0) ∧ W.cell? ⟨w.heap.size + 1, 1, none⟩ = some (.slice none 0 0) ∧ W.frozen? ⟨w.heap.size + 1, 0, none⟩ = false ∧ W.frozen? ⟨w.heap.size + 1, 1, none⟩ = false from fun W hW =>
      ⟨(hW.cell (p := ⟨w.heap.size, 0, none⟩) (by simp)).trans (by rw [← hw2']; simp [go_sem]), (hW.cell (p := ⟨w.heap.size, 1, none⟩) (by simp)).trans (by rw [← hw2']; simp [go_sem]), (hW.cell (p := ⟨w.heap.size + 1, 0, none⟩) (by simp)).trans (by rw [← hw2']; simp [go_sem]), (hW.cell (p := ⟨w.heap.size + 1, 1, none⟩) (by simp)).trans (by rw [← hw2']; simp [go_sem]), (hW.frozen (p := ⟨w.heap.size + 1, 0, none⟩) (by simp)).trans (by rw [← hw2']; simp [go_sem]), (hW.frozen (p := ⟨w.heap.size + 1, 1, none⟩) (by simp)).trans (by rw [← hw2']; simp [go_sem])⟩)
    have HB2 := Lib.hid hB2
    have HS2 := Lib.hid hs2
    clear hB2 hs2
    obtain ⟨c0, c1, r0, r1, rf0, rf1⟩ := L2.out w2 (Below.refl _ _)
    by_cases q : t.head < 0
    · have hsub := T.sub_neg (f := (ofS s)) q
      have CO := Lib.hid (refOf_any s (-1 - t.head) n₀ as_ cs w2 (by have := HS2.out; omega) (by omega) (by omega) (HSB.out.below (HB2.out.mono hn)))
      go_enter Try.func63, Try.ntmps63
      go_wp2_with fail
      refine CO.out.mono ?_
      rintro e w3 ⟨a3, c3, rfl, hw3, hA3, hb3⟩
      clear c0 c1 r0 r1 rf0 rf1 hw2'
      obtain ⟨c0, c1, r0, r1, rf0, rf1⟩ := L2.out w3 (by rw [← HS2.out]; exact hb3)
      generalize ofS s (-1 - t.head) = x at hsub hw3 hA3 ⊢
      have HW3 := Lib.hid hw3
      have HI3 := Lib.hid hA3
      have HB3 := Lib.hid (HB2.out.trans (hb3.mono HB2.out.size))
      clear hw3 hA3 hb3
      go_wp2
      refine bodyPost_ret (v := tm x.head a3 x.args.length c3) (by simp [results, Try.results63, go_sem, r0, r1]) rfl ?_
      first | rw [hsub] | skip
      refine ⟨a3, c3, rfl, HW3.out, (isArgsp_lt.2 HI3.out).keep (fun b hb => ?_) (fun b hb => .inl hb), (HB3.out.setCell (p := ⟨w.heap.size + 1, 0, none⟩) (by simp) _).setCell (p := ⟨w.heap.size + 1, 1, none⟩) (by simp) _⟩
      exact (Below.heap_setCell _ _ _ _ (by show b ≠ w.heap.size + 1; omega)).trans (Below.heap_setCell _ _ _ _ (by show b ≠ w.heap.size + 1; omega))
    · have HSUB := Lib.hid (T.sub_pos (f := (ofS s)) q)
      obtain ⟨i0, hi, hz0, hz1, hz2⟩ := info_parts infoTerm
      go_enter Try.func63, Try.ntmps63
      go_wp2
      obtain ⟨w3, hw3⟩ : ∃ w3, w2.alloc (tmCells t.head none 0 0) = w3 := ⟨_, rfl⟩
      have hB3 : Below w.heap.size w w3 := by rw [← hw3]; exact HB2.out.alloc HB2.out.size _
      have hs3 : w3.heap.size = w.heap.size + 3 := by rw [← hw3]; have := HS2.out; simp; omega
      have hb23 : Below (w.heap.size + 2) w2 w3 := by rw [← hw3]; exact (Below.refl _ _).alloc (by have := HS2.out; omega) _
      have hout : w3.heap[w.heap.size + 2]? = some (.cells #[.int .i64 t.head, .slice none 0 0] 25 (0, 0)) := by
        rw [← hw3, ← HS2.out]
        exact heap_alloc_new w2 (tmCells t.head none 0 0)
      have HB3 := Lib.hid hB3
      have HS3 := Lib.hid hs3
      have HOUT := Lib.hid hout
      have H23 := Lib.hid hb23
      have hsz2 := HS2.out
      rw [hw3, hsz2]
      obtain ⟨ts', hts⟩ : ∃ ts', t.args.map (T.sub (ofS s)) = ts' := ⟨_, rfl⟩
      have hll : ts'.length = t.args.length := by rw [← hts]; simp
      have HTS := Lib.hid (show ∀ (k : Nat) (x : T), t.args[k]? = some x → ts'[k]? = some (x.sub (ofS s)) from fun k x h => by rw [← hts, List.getElem?_map, h]; rfl)
      have HTE := Lib.hid hts
      clear hw3 hB3 hs3 hout hb23 hts hw2' c0 c1 r0 r1 rf0 rf1 hsz2
      go_loopw [6] (fun i wr => SubI t.head ts' n₀ w w3 i wr) (fun i _ => t.args.length - (intOf i).toNat)
      case atStart => exact ⟨0, _, [], Nat.zero_le _, rfl, HOUT.out, World.ownsRow_nil _ _ _ _, trivial, Below.refl _ _⟩
      case round =>
        obtain ⟨k, v, xs, hk, rfl, hout, hown, hrv, hB⟩ := hrel
        rw [hll] at hk
        have hz : w.heap.size + 3 ≤ wr.heap.size := by have := hB.size; have := HS3.out; omega
        have hw : Below w.heap.size w wr := HB3.out.trans (hB.mono (by omega))
        have h2w : Below (w.heap.size + 2) w2 wr := H23.out.trans hB
        obtain ⟨c0, c1, r0, r1, rf0, rf1⟩ := L2.out wr h2w
        have ho0 : wr.cell? ⟨w.heap.size + 2, 0, none⟩ = some (.int .i64 t.head) := by simp [World.cell?, hout]
        have ho1 : wr.cell? ⟨w.heap.size + 2, 1, none⟩ = some v := by simp [World.cell?, hout]
        have hf1 : wr.frozen? ⟨w.heap.size + 2, 1, none⟩ = false := by simp [World.frozen?, hout]
        have HO := Lib.hid hown
        have HR := Lib.hid hrv
        have HW := Lib.hid hw
        have HBL := Lib.hid hB
        have HOUT' := Lib.hid hout
        clear hown hrv hw hB hout HOUT h2w
        by_cases hlt : k < t.args.length
        · obtain ⟨b, o, s_, a', c', rfl, hbn, hs, hswf, hc1, hc2, hA'⟩ := (HA.out.below (HW.out.mono hn)).elem (i := k) hlt
          have hsN : s_.size ≤ N := by have := T.size_lt_of_mem hs; have := HS.out; omega
          have hsb : s_.size ≤ 1000000000000 := by have := T.size_lt_of_mem hs; have := HS.out; omega
          have hbw : b < wr.heap.size := by omega
          have HA' := Lib.hid hA'
          have HSW := Lib.hid hswf
          have hk0 : (0 : Int) ≤ (k : Int) := Int.natCast_nonneg _
          have hk1 : (k : Int) < (t.args.length : Int) := by omega
          have hoB : w.heap.size + 2 < wr.heap.size := by omega
          have hxB : w.heap.size < wr.heap.size := by omega
          have hk2 : k + 1 ≤ maxLen := by unfold maxLen; omega
          have cc : Calls Try.prog 63 #[.slice as_ s.length cs, tm s_.head a' s_.args.length c'] wr.drew (RPutPost (s_.sub (ofS s)) n₀ wr.drew) := IH.out s_ hsN hsb n₀ a' c' as_ cs wr.drew (by show n₀ ≤ wr.heap.size; omega) HSW.out (HA'.out.below (Below.refl _ _).drew) ((HSB.out.below (HW.out.mono hn)).below (Below.refl _ _).drew)
          obtain ⟨y, hy⟩ : ∃ y, s_.sub (ofS s) = y := ⟨_, rfl⟩
          have HTY := Lib.hid (hy ▸ HTS.out k s_ hs)
          rw [hy] at cc
          have CC := Lib.hid cc
          clear cc hs hA' hswf hy r0 r1 rf0 rf1
          go_wp2
          go_region_law (first
              | (refine step_append_lies _ (by rfl) _ _ _ (by rfl) (w.heap.size + 3) 25 i0 _ 2 32 Try.underlying23 hi hz0 hz1 hz2 rfl (by omega) v k xs (by rfl) ((ownsRow_later HO.out hB4w).alloc _)
                  ⟨w4.heap.size, 0, none⟩ 1 1 [.int .i64 y.head, .slice a2 y.args.length c2] (by rfl) (by rfl) (World.news_of_block (cs := #[.int .i64 y.head, .slice a2 y.args.length c2]) (t := 25) (fr := (0, 0)) (heap_alloc_new w4 _)) (by simp [Value.oneCell'])
                  (by omega) hk2 (by omega) (by simp; omega) (w4.heap.size + 1) (by simp) ?_; intro g5 cap5 w5 hown5 hgrow5 hat5 hlt5; have hB5x : Below (w.heap.size + 3) wr w5 := ((hB4w.mono hz).alloc hz4 _).grown hgrow5 (by simp; omega) (fun k hk => (HO.out.lt k hk).1); have ho5 := (hB5x.cell (p := ⟨w.heap.size + 2, 1, none⟩) (by simp)).trans ho1; have hf5 := (hB5x.frozen (p := ⟨w.heap.size + 2, 1, none⟩) (by simp)).trans hf1)
              | (go_simp; go_at_call 63; refine CC.out.mono ?_; rintro e w4 ⟨a2, c2, rfl, hwf4, hI4, hb4⟩; have hB4w : Below wr.heap.size wr w4 := ⟨hb4.os, hb4.tape, hb4.output, hb4.size, hb4.block⟩; have hz4 : w.heap.size + 3 ≤ w4.heap.size := Nat.le_trans hz hB4w.size; have ho4 := (hB4w.cell (p := ⟨w.heap.size + 2, 1, none⟩) (by simp; omega)).trans ho1; have ho4' : ∀ ob, (w4.alloc ob).cell? ⟨w.heap.size + 2, 1, none⟩ = some v := fun ob => (World.cell?_of_block (a := ⟨w.heap.size + 2, 1, none⟩) (Below.heap_alloc w4 ob _ (by simp; omega))).trans ho4))
          all_goals
            go_wp2
            go_roundw
            case rel => exact sub_step hn HTY.out hwf4 HOUT'.out HO.out HR.out HBL.out hz hI4 hB4w hown5 hgrow5 hat5
            case measure => simp [intOf]; omega
        · obtain rfl : k = t.args.length := by omega
          have hr := HR.out
          rw [← hll, List.take_length] at hr
          have ho := HO.out
          rw [← hll] at ho
          obtain ⟨a2, c2, rfl, hI⟩ := argsp_of_owns (ok' := fun b => b ≠ w.heap.size + 1 ∧ (b < n₀ ∨ w.heap.size ≤ b ∧ b < wr.heap.size)) ho hr (fun b hb => by
            rcases hb with hb | hb
            · exact ⟨by omega, .inl hb⟩
            · exact ⟨by have := hb.1; omega, .inr ⟨by have := hb.1; omega, hb.2.1⟩⟩) (fun g hg => by have := ho.lt g hg; exact ⟨by omega, .inr ⟨by omega, by omega⟩⟩)
          have HI := Lib.hid hI
          clear hI hr ho
          go_wp2
          refine bodyPost_ret (v := tm t.head a2 ts'.length c2) (by simp [results, Try.results63, go_sem, r0, r1, hll]) rfl ?_
          rw [HSUB.out, HTE.out]
          refine ⟨a2, c2, rfl, HWF.out, HI.out.keep (fun b hb => (Below.heap_setCell _ _ _ _ (by simpa using hb.1)).trans (Below.heap_setCell _ _ _ _ (by simpa using hb.1))) (fun b hb => by simpa using hb.2), ?_⟩
          exact (HW.out.setCell (p := ⟨w.heap.size + 1, 0, none⟩) (by simp) _).setCell (p := ⟨w.heap.size + 1, 1, none⟩) (by simp) _

end Go.Proofs.Ytleohdddaadbeaa

/- Contracts of the reference's Apply and Shift. -/
namespace Go.Proofs.Ytleohdddaadbeaa
set_option linter.unusedVariables false
set_option linter.unusedSimpArgs false
open Go.RowKit

/-- What the reference's Right of substitutions answers. -/
def RightSAny : Prop := ∀ (s : Sb), (∀ x ∈ s, x.2.size ≤ 1000000000000) → ∀ (n₀ : Nat) (a : Option Addr) (c : Nat) (w : World), n₀ ≤ w.heap.size → IsBs n₀ w s a c →
  Calls Try.prog 60 #[.slice a s.length c] w fun e w' => e = .returned (.bool (rightS 0 s)) ∧ Below w.heap.size w w'

theorem bl2 {w2 w7 w8 : World} {h : Int} {a : Option Addr} {n c : Nat} (hb : Below w2.heap.size w2 w7) (h8 : w8 = w7.alloc (tmCells h a n c)) : Below w2.heap.size w2 w8 := by
  subst h8
  exact hb.alloc hb.size _

set_option maxRecDepth 100000 in
set_option maxHeartbeats 4000000 in
theorem refApplyF_any (RS : RightSAny) (s : Sb) (hsz : ∀ x ∈ s, x.2.size ≤ 1000000000000) (t : T) (ht : t.size ≤ 1000000000000) (n₀ : Nat) (a : Option Addr) (c : Nat) (at_ : Option Addr) (ct : Nat) (w : World) (hn : n₀ ≤ w.heap.size) (hS : IsBs n₀ w s a c) (htw : (Lit.int .i64 t.head).wf = true) (hA : IsArgs n₀ w t.args at_ ct) :
    Calls Try.prog 31 #[.slice a s.length c, tm t.head at_ t.args.length ct] w (TEPostF n₀ (appT s t) (appE s t) w) := by
  obtain ⟨w2, hw2⟩ : ∃ w2, (w.alloc (tmCells t.head at_ t.args.length ct)).alloc (tmCells 0 none 0 0) = w2 := ⟨_, rfl⟩
  have hB2 : Below w.heap.size w w2 := by rw [← hw2]; exact ((Below.refl _ w).alloc (Nat.le_refl _) _).alloc (by simp) _
  have hs2 : w2.heap.size = w.heap.size + 2 := by rw [← hw2]; simp
  have L2 := Lib.hid (show ∀ W, Below w2.heap.size w2 W → W.cell? ⟨w.heap.size, 0, none⟩ = some (.int .i64 t.head) ∧ W.cell? ⟨w.heap.size, 1, none⟩ = some (.slice at_ t.args.length ct) ∧ W.cell? ⟨w.heap.size + 1, 0, none⟩ = some (.int .i64 0) ∧ W.cell? ⟨w.heap.size + 1, 1, none⟩ = some (.slice none 0 0) ∧ W.frozen? ⟨w.heap.size + 1, 0, none⟩ = false ∧ W.frozen? ⟨w.heap.size + 1, 1, none⟩ = false from fun W hW =>
    ⟨(hW.cell (p := ⟨w.heap.size, 0, none⟩) (by simp; omega)).trans (by rw [← hw2]; simp [go_sem]), (hW.cell (p := ⟨w.heap.size, 1, none⟩) (by simp; omega)).trans (by rw [← hw2]; simp [go_sem]), (hW.cell (p := ⟨w.heap.size + 1, 0, none⟩) (by simp; omega)).trans (by rw [← hw2]; simp [go_sem]), (hW.cell (p := ⟨w.heap.size + 1, 1, none⟩) (by simp; omega)).trans (by rw [← hw2]; simp [go_sem]), (hW.frozen (p := ⟨w.heap.size + 1, 0, none⟩) (by simp; omega)).trans (by rw [← hw2]; simp [go_sem]), (hW.frozen (p := ⟨w.heap.size + 1, 1, none⟩) (by simp; omega)).trans (by rw [← hw2]; simp [go_sem])⟩)
  have LS := Lib.hid (show ∀ W, Below w2.heap.size w2 W → IsBs n₀ W s a c ∧ IsArgs n₀ W t.args at_ ct ∧ Below w.heap.size w W ∧ n₀ ≤ W.heap.size from fun W hW => by
    have h := hB2.trans (hW.mono hB2.size)
    exact ⟨hS.below (h.mono hn), hA.below (h.mono hn), h, Nat.le_trans hn h.size⟩)
  have HTW := Lib.hid htw
  have HSZ := Lib.hid hsz
  have HS2 := Lib.hid hs2
  have HRS := Lib.hid RS
  clear hS hA hB2 hs2 htw hsz RS
  go_enter Try.func31, Try.ntmps31
  go_wp2_with fail
  have ls := LS.out w2 (Below.refl _ _)
  refine (HRS.out s HSZ.out n₀ a c w2 ls.2.2.2 ls.1).mono ?_
  clear ls hw2
  rintro e w3 ⟨rfl, hb3⟩
  cases q1 : rightS 0 s
  · have hga : goodA s t = false := by simp [goodA, q1]
    have hT : appT s t = Z0 := by unfold appT; rw [hga]; rfl
    have hE : appE s t = 1 := by unfold appE; rw [hga]; rfl
    obtain ⟨_, _, s0, s1, sf0, sf1⟩ := L2.out w3 hb3
    have HF := Lib.hid (LS.out w3 hb3).2.2.1
    clear hb3
    go_wp2
    refine bodyPost_ret (v := .tuple #[tm 0 none 0 0, .int .i64 1]) (by simp [results, Try.results31, go_sem, s0, s1]) rfl ?_
    first | rw [hT, hE] | skip
    exact ⟨none, 0, rfl, wf_z0, isArgsp_z _ _, (HF.out.setCell (p := ⟨w.heap.size + 1, 0, none⟩) (by simp) _).setCell (p := ⟨w.heap.size + 1, 1, none⟩) (by simp) _⟩
  · obtain ⟨c0, c1, _, _, _, _⟩ := L2.out w3 hb3
    have HB3 := Lib.hid hb3
    clear hb3
    go_wp2_with fail
    clear c0 c1
    have ls := LS.out w3 HB3.out
    refine (refRight_any t ht n₀ at_ ct w3 ls.2.2.2 ls.2.1).mono ?_
    clear ls
    rintro e w4 ⟨rfl, hb4⟩
    have HB4 := Lib.hid (HB3.out.trans (hb4.mono HB3.out.size))
    clear hb4
    by_cases q2 : t.check = 0
    · rw [decide_eq_true q2]
      have hga : goodA s t = true := by simp [goodA, q1, q2]
      have hT : appT s t = endT (t.sub (ofS s)) := by unfold appT; rw [if_pos hga]
      have hE : appE s t = (t.sub (ofS s)).check := by unfold appE; rw [if_pos hga]
      obtain ⟨hts, _, htg⟩ := check_ok q2
      have hxs : (t.sub (ofS s)).size ≤ 1000000000000 := Nat.le_trans (sub_bound q1 hts) (by omega)
      obtain ⟨c0, c1, _, _, _, _⟩ := L2.out w4 HB4.out
      go_wp2_with fail
      clear c0 c1
      have ls := LS.out w4 HB4.out
      refine (refSub_any s t.size t (Nat.le_refl _) ht n₀ at_ ct a c w4 ls.2.2.2 HTW.out ls.2.1 ls.1).mono ?_
      clear ls
      generalize t.sub (ofS s) = x at hxs hT hE ⊢
      rintro e w5 ⟨a5, c5, rfl, hw5, hI5, hb5⟩
      have HI5 := Lib.hid hI5
      have HW5 := Lib.hid hw5
      have HB5 := Lib.hid (HB4.out.trans (hb5.mono HB4.out.size))
      have hn5 : n₀ ≤ w5.heap.size := Nat.le_trans (LS.out w4 HB4.out).2.2.2 hb5.size
      have hn4 : w.heap.size + 2 ≤ w4.heap.size := by have := HB4.out.size; have := HS2.out; omega
      clear hI5 hw5 hb5
      go_wp2_with fail
      refine (refEnd_any x hxs _ a5 c5 w5 (fun b h => by rcases h with h | h; omega; exact h.2) HW5.out HI5.out).mono ?_
      rintro e w7 ⟨a7, c7, rfl, hw7, hA7, hb7⟩
      obtain ⟨y, hy⟩ : ∃ y, endT x = y := ⟨_, rfl⟩
      rw [hy] at hw7 hA7 hT ⊢
      have HB7 := Lib.hid (HB5.out.trans (hb7.mono HB5.out.size))
      have hz7 := hb7.size
      obtain ⟨w8, hw8⟩ : ∃ w8, w7.alloc (tmCells y.head a7 y.args.length c7) = w8 := ⟨_, rfl⟩
      have hz8 : w8.heap.size = w7.heap.size + 1 := by rw [← hw8]; simp
      have d0 : w8.cell? ⟨w7.heap.size, 0, none⟩ = some (.int .i64 y.head) := by rw [← hw8]; simp [go_sem]
      have d1 : w8.cell? ⟨w7.heap.size, 1, none⟩ = some (.slice a7 y.args.length c7) := by rw [← hw8]; simp [go_sem]
      have HB8 := Lib.hid (bl2 HB7.out hw8.symm)
      have HA8 := Lib.hid (hA7.keep (ok' := fun b => (b < n₀ ∨ w.heap.size + 2 ≤ b) ∧ b < w8.heap.size) (w' := w8) (fun b hb => by rw [← hw8]; exact Below.heap_alloc _ _ _ (by rcases hb with h | h; omega; have := h.2; omega)) (fun b hb => by rcases hb with h | h; exact ⟨.inl h, by omega⟩; exact ⟨by have := h.1; omega, by have := h.2; omega⟩))
      obtain ⟨_, _, s0, s1, sf0, sf1⟩ := L2.out w8 HB8.out
      have HW7 := Lib.hid hw7
      have HF := Lib.hid (LS.out w8 HB8.out).2.2.1
      clear hA7 hb7 hw7
      go_wp2
      refine bodyPost_ret (v := .tuple #[tm y.head a7 y.args.length c7, .int .i64 x.check]) (by simp [results, Try.results31, go_sem, s0, s1]) rfl ?_
      first | rw [hT, hE] | rw [hE] | rw [hT] | skip
      exact ⟨a7, c7, rfl, HW7.out, (HA8.out.keep (ok' := fun b => (b < n₀ ∨ w.heap.size ≤ b) ∧ b < ((w8.setCell ⟨w.heap.size + 1, 0, none⟩ (.int .i64 y.head)).setCell ⟨w.heap.size + 1, 1, none⟩ (.slice a7 y.args.length c7)).heap.size) (fun b hb => (Below.heap_setCell _ _ _ _ (show b ≠ w.heap.size + 1 by have := hb.1; omega)).trans (Below.heap_setCell _ _ _ _ (show b ≠ w.heap.size + 1 by have := hb.1; omega))) (fun b hb => by have h1 := hb.1; have h2 := hb.2; simp; omega)), (HF.out.setCell (p := ⟨w.heap.size + 1, 0, none⟩) (by simp) _).setCell (p := ⟨w.heap.size + 1, 1, none⟩) (by simp) _⟩
    · rw [decide_eq_false q2]
      have hga : goodA s t = false := by simp [goodA, q2]
      have hT : appT s t = Z0 := by unfold appT; rw [hga]; rfl
      have hE : appE s t = 1 := by unfold appE; rw [hga]; rfl
      obtain ⟨_, _, s0, s1, sf0, sf1⟩ := L2.out w4 HB4.out
      have HF := Lib.hid (LS.out w4 HB4.out).2.2.1
      go_wp2
      refine bodyPost_ret (v := .tuple #[tm 0 none 0 0, .int .i64 1]) (by simp [results, Try.results31, go_sem, s0, s1]) rfl ?_
      first | rw [hT, hE] | skip
      exact ⟨none, 0, rfl, wf_z0, isArgsp_z _ _, (HF.out.setCell (p := ⟨w.heap.size + 1, 0, none⟩) (by simp) _).setCell (p := ⟨w.heap.size + 1, 1, none⟩) (by simp) _⟩

theorem refApply_any (RS : RightSAny) (s : Sb) (hsz : ∀ x ∈ s, x.2.size ≤ 1000000000000) (t : T) (ht : t.size ≤ 1000000000000) (n₀ : Nat) (a : Option Addr) (c : Nat) (at_ : Option Addr) (ct : Nat) (w : World) (hn : n₀ ≤ w.heap.size) (hS : IsBs n₀ w s a c) (htw : (Lit.int .i64 t.head).wf = true) (hA : IsArgs n₀ w t.args at_ ct) :
    Calls Try.prog 31 #[.slice a s.length c, tm t.head at_ t.args.length ct] w (TEPost (appT s t) (appE s t) w) :=
  (refApplyF_any RS s hsz t ht n₀ a c at_ ct w hn hS htw hA).mono fun _ _ h => h.te

end Go.Proofs.Ytleohdddaadbeaa
