/- The iterator that visits the subterms of a term: its contract. -/
import Derived.RangeFuncNested
import Derived.RangeFuncBound
import Derived.RangeFuncCalls
import Derived.RangeFuncLeaves
import Derived.Shelf.Abstract
import Derived.Shelf.RegionOpen
import Derived.OwnWalkIn
import Derived.TacticsInMore
import Derived.LoopNIn
import Derived.LoopIn
import Derived.Maps.AppendAt
import Derived.Deep.DeepMust
import Derived.Lib.OwnKind
import Derived.Test.YtfkaecjdncjggaaLeaf
import Derived.Test.YtfkaecjdncjggaaFrs
namespace Go.Proofs.Ytfkaecjdncjggaa
set_option linter.unusedVariables false
set_option linter.unusedSimpArgs false
open Go.RowKit Go.Shelf
attribute [local go_sem] Oper.semAt_some

/-- What may come next in a visit, and how it is handed over. -/
def subMay (n₀ : Nat) (t : T) (pre : List (Nat × T)) (x : Nat × T) (vs : Array Value) (W : World) : Prop :=
  pre ++ [x] <+: T.subs 1 t ∧ (Lit.int .i64 x.2.head).wf = true ∧ ∃ a c, vs = #[.int .i64 x.1, tm x.2.head a x.2.args.length c] ∧ IsArgs n₀ W x.2.args a c

/-- The types of the iterator's own blocks. -/
def subOwn (e : TypeId) : Bool := e == 29 || e == 31

theorem info22 : (Try.prog.info? 29).map (fun i => (i.zero, i.size, i.bytes)) = some (some (.slice none 0 0), 1, 24) := by kernel_rfl

theorem cell_one_at (w : World) (v : Value) (t : TypeId) (k : Nat) (hk : k = w.heap.size) : ∀ (j : Nat) (u : Value), [v][j]? = some u → (w.alloc (.cells #[v] t)).cell? ((⟨k, 0, none⟩ : Addr).add j) = some u := by
  subst hk; exact cell_one_new w v t

set_option maxRecDepth 100000 in
set_option maxHeartbeats 4000000 in
theorem subterms1_in (F : Fence) (n : Nat) (hF : F.fn 73) (hro : F.round = none) (hn : 1 ≤ n) (t : T) (ht : t.size ≤ 1000000) (l Bt n₀ : Nat) (a : Option Addr) (c : Nat) (J Jx : List (Nat × T) → World → Prop) (W : World)
    (hJ : AbidesChg W.heap.size 29 J) (hn₀ : n₀ ≤ W.heap.size) (hwf : (Lit.int .i64 t.head).wf = true) (hc0 : W.cell? ⟨Bt, 0, none⟩ = some (.int .i64 t.head)) (hc1 : W.cell? ⟨Bt, 1, none⟩ = some (.slice a t.args.length c)) (hA : IsArgs n₀ W t.args a c)
    (hY : ∀ pre x vs W1, J pre W1 → W.heap.size ≤ W1.heap.size → subMay n₀ t pre x vs W1 → YieldAt F (n - 1) Try.prog l vs W1 fun e W' =>
      (e = .returned (.bool true) ∧ J (pre ++ [x]) W' ∧ KeptO n₀ W.heap.size subOwn W1 W') ∨ (e = .returned (.bool false) ∧ Jx (pre ++ [x]) W'))
    (h0 : J [] W) :
    CallsIn F n Try.prog 73 #[.func (.yield l) #[] #[], .pointer (some ⟨Bt, 0, none⟩)] W (subPost t J Jx) := by
  have HY := Lib.hid hY
  have HJ := Lib.hid hJ
  have HA := Lib.hid hA
  clear hY hJ hA
  refine callsIn_of_wp Try.func73 rfl hF ?_ hro
  simp only [Try.ntmps73, List.size_toArray, List.length_cons, List.length_nil, Nat.reduceAdd, Nat.reduceSub, Array.replicate_succ, Array.replicate_zero, List.push_toArray, List.append_toArray, List.nil_append, List.cons_append]
  refine wpIn_scope ?_
  gi_wp2
  refine wpIn_label ?_
  gi_wp2
  gi_loopw [3] (fun v wr => AtX n₀ W.heap.size t J 29 31 v wr) (fun v wr => atM n₀ W.heap.size t J 29 31 v wr)
  case atStart => exact ⟨_, At.start hn₀ HJ.out hwf HA.out h0⟩
  case round =>
    obtain ⟨fs, vs, pre, hat, hK⟩ := hrel.open
    have HK := Lib.hid hK
    clear hrel hK
    have hfl := hat.length_le
    obtain ⟨hown, hfrs, hjp, hpre, hlen, _, hsz, hfst⟩ := hat
    have HFST := Lib.hid hfst
    clear hfst
    have HJP := Lib.hid hjp
    have HF := Lib.hid hfrs
    have HP := Lib.hid hpre
    clear hjp hfrs hpre
    cases fs with
    | nil =>
      have hu : ∃ a' c', u3 = .slice a' 0 c' := by
        rcases hown.2 with ⟨h, _⟩ | ⟨g, cap, cur, h, _⟩
        · exact ⟨_, _, h⟩
        · exact ⟨_, _, h⟩
      obtain ⟨a', c', rfl⟩ := hu
      clear hown hlen hfl
      gi_wp2
      go_end0
      exact ⟨⟨_, rfl⟩, .inl ⟨pre, by simpa [rest] using HP.out, HJP.out⟩⟩
    | cons f fs =>
      cases vs with
      | nil => exact HF.out.elim
      | cons v vs =>
        obtain ⟨⟨a', c', rfl, hfc, hcm, hrow⟩, hF2⟩ := HF.out
        obtain ⟨g, cap, rfl⟩ := ownsRow_succ hown
        have hvl : fs.length = vs.length := hF2.length
        have hcell : wr.cell? ⟨g, fs.length, none⟩ = some (.slice a' f.length c') := by
          rw [hown.cellAt fs.length (by simp), hvl, get_last]
        have HO := Lib.hid hown
        have HVL := Lib.hid hvl
        have HF2 := Lib.hid hF2
        have HR := Lib.hid hrow
        clear hown hvl hF2 hrow
        simp only [List.length_cons] at hfl hlen
        unfold maxLen at hcm
        gi_wp2
        gi_loopw [3, 23] (fun st i wq => InX n₀ W.heap.size t J 29 31 f fs vs a' c' (.slice (some ⟨g, 0, none⟩) (fs.length + 1) cap) st i wq) (fun _ i _ => f.length - (intOf i).toNat)
        case atStart => exact ⟨0, pre, Nat.zero_le _, rfl, rfl, HO.out, HF.out, HJP.out, by simpa [rest] using HP.out, by omega, hsz, HFST.out⟩
        case round =>
          clear HJP HP HF HO HF2 HR hcell hlen HFST
          obtain ⟨j, pre, hj, rfl, rfl, hown, hfrs, hjp, hpre, hlen, hsz2, hfst⟩ := hrel
          have HFST := Lib.hid hfst
          clear hfst
          have hcell : wr.cell? ⟨g, fs.length, none⟩ = some (.slice a' f.length c') := by
            rw [hown.cellAt fs.length (by simp), HVL.out, get_last]
          have HO := Lib.hid hown
          have HF := Lib.hid hfrs
          have HJP := Lib.hid hjp
          have HP := Lib.hid hpre
          clear hown hfrs hjp hpre
          by_cases hlt : j < f.length
          · obtain ⟨b, o, s, a₁, c₁, rfl, hb, hs, hswf, hd1, hd2, hsA, hrow⟩ := HF.out.head_elem hlt
            have hmay : subMay n₀ t pre (fs.length + 1, s) #[.int .i64 ((fs.length : Int) + 1), tm s.head a₁ s.args.length c₁] (wr.alloc (tmCells s.head a₁ s.args.length c₁)) := by
              refine ⟨?_, hswf, a₁, c₁, by simp, hsA.below ((Below.refl _ _).alloc (by omega) _)⟩
              have h1 := HP.out
              rw [T.subss_drop _ hs, T.subs_eq] at h1
              exact ⟨T.subss (fs.length + 1 + 1) s.args ++ T.subss (fs.length + 1) (f.drop (j + 1)) ++ rest fs, by rw [← h1]; simp⟩
            obtain ⟨fn, tmps, assign, body, hy, hR⟩ := HY.out pre _ _ _ (HJ.out _ _ _ HJP.out (Chg.alloc _ _ wr (by omega) (tmCells s.head a₁ s.args.length c₁))) (by simp; omega) hmay
            have HS := Lib.hid hs
            have HSA := Lib.hid hsA
            have HRW := Lib.hid hrow
            clear hs hsA hrow hmay hswf
            gi_wp2
            refine hR.mono ?_
            clear hR hy
            rintro e W3 (⟨rfl, hJ3, hk3⟩ | ⟨rfl, hJx3⟩)
            · have hbx : W3.cell? ⟨wr.heap.size, 1, none⟩ = some (.slice a₁ s.args.length c₁) :=
                (World.cell?_of_block (a := ⟨wr.heap.size, 1, none⟩) (hk3.at (b := wr.heap.size) (by omega) (World.alloc_heap_new wr (tmCells s.head a₁ s.args.length c₁)) rfl)).trans (by simp [go_sem])
              have hgl := HO.out.lt g rfl
              obtain ⟨cg, fg, hkind⟩ := Lib.ownsRow_kind HO.out g rfl
              have hg0 : (wr.alloc (tmCells s.head a₁ s.args.length c₁)).heap[g]? = wr.heap[g]? := Below.heap_alloc _ _ _ hgl.2
              have hg3 : W3.heap[g]? = wr.heap[g]? := (hk3.at (by omega) (hg0.trans hkind) rfl).trans hg0
              obtain ⟨cf, ff, hfk⟩ := HFST.out
              have hb0 : (wr.alloc (tmCells s.head a₁ s.args.length c₁)).heap[W.heap.size]? = wr.heap[W.heap.size]? := Below.heap_alloc _ _ _ (by omega)
              have hB3 : W3.heap[W.heap.size]? = wr.heap[W.heap.size]? := (hk3.at (Nat.le_refl _) (hb0.trans hfk) rfl).trans hb0
              have hfst3 := HFST.out.keep hB3
              clear hkind hg0 hfk hb0 HFST
              have HFST := Lib.hid hfst3
              clear hfst3
              have hlow : Below n₀ wr W3 := ((Below.refl _ _).alloc (by omega) _).trans hk3.1
              have hs3 : wr.heap.size + 1 ≤ W3.heap.size := by have := hk3.1.size; simpa using this
              have hown3 := ownsRow_block HO.out hg3
              have hfrs3 := HF.out.keep hlow hB3
              have hsA3 := HSA.out.below hlow
              have hrow3 : IsRow n₀ W3 f b o := IsRow.keep (fun b o hb _ => hlow.cell (p := ⟨b, o, none⟩) hb) f (fun o _ => by
                rcases hb with hb | rfl
                · exact hlow.cell (p := ⟨b, o, none⟩) hb
                · exact World.cell?_of_block (a := ⟨W.heap.size, o, none⟩) hB3) HRW.out
              clear HRW
              have HRW := Lib.hid hrow3
              clear hrow3
              have hfz : W3.frozen? ⟨g, fs.length, none⟩ = false := hown3.frozenAt fs.length
              have hcell3 : W3.cell? ⟨g, fs.length, none⟩ = some (.slice (some ⟨b, o, none⟩) f.length c') := by
                rw [hown3.cellAt fs.length (by simp), HVL.out, get_last]
              have HJ3 := Lib.hid hJ3
              have HO3 := Lib.hid hown3
              have HF3 := Lib.hid hfrs3
              have HSA3 := Lib.hid hsA3
              have HGL := Lib.hid hgl
              clear hJ3 hown3 hfrs3 hsA3 hgl hg3 hB3 hk3 HO HF HSA HJP hcell hd1 hd2 hlow
              by_cases hz : s.args.length = 0
              · rw [hz] at hbx ⊢
                gi_wp2
                go_roundw
                case rel =>
                  refine ⟨j + 1, pre ++ [(fs.length + 1, s)], by omega, by go_num, rfl, HO3.out, HF3.out, HJ3.out, ?_, by simp; omega, by omega, HFST.out⟩
                  have h1 := HP.out
                  rw [T.subss_drop _ HS.out, T.subs_eq, List.eq_nil_of_length_eq_zero hz] at h1
                  simpa [T.subss] using h1
                case measure => simp [intOf]; omega
              · have hz' : 0 < s.args.length := by omega
                obtain ⟨hg1, hg2⟩ := HGL.out
                have hbx' : ∀ u, (W3.setCell ⟨g, fs.length, none⟩ u).cell? ⟨wr.heap.size, 1, none⟩ = some (.slice a₁ s.args.length c₁) := fun u =>
                  (World.cell?_of_block (a := ⟨wr.heap.size, 1, none⟩) (Below.heap_setCell W3 ⟨g, fs.length, none⟩ u wr.heap.size (by simp; omega))).trans hbx
                obtain ⟨i0, hi, hz0, hz1, hz2⟩ := info_parts info22
                by_cases hcj : c' = j + 1
                · subst hcj
                  gi_wp2_with (gi_at_builtin; go_must (refine wpListIn_append_own _ rfl _ _ 109 rfl (W.heap.size + 1) 29 i0 (.slice none 0 0) 1 24 Try.underlying109 hi hz0 hz1 hz2 rfl (by decide) _ _ _ rfl ((HO3.out.stored fs.length _).1.alloc _) ⟨W3.heap.size, 0, none⟩ 1 1 [.slice a₁ s.args.length c₁] rfl rfl (cell_one_at _ _ _ _ (by simp)) (by simp [Value.oneCell']) (by unfold maxLen; omega) (by omega) (by simp; omega) ?_); intro v' w1 hown' hgrow _)
                  have hf : Fr n₀ W.heap.size W3 (f.drop (j + 1)) (.slice (some ⟨b, o, none⟩) 0 0) := by
                    have hnil : f.drop (j + 1) = [] := by rw [List.drop_eq_nil_iff]; omega
                    rw [hnil]
                    exact ⟨_, 0, rfl, Nat.le_refl _, by simp [maxLen], .inl rfl⟩
                  have hat := At.push HJ.out hn₀ HO3.out HF3.out HSA3.out HS.out HP.out HJ3.out hf hlen (by omega) HFST.out hown' hgrow
                  exact ⟨⟨_, hat⟩, AtX.lt hat (by rw [HK.out]; exact left_push HS.out fs)⟩
                · gi_wp2_with (gi_at_builtin; go_must (refine wpListIn_append_own _ rfl _ _ 109 rfl (W.heap.size + 1) 29 i0 (.slice none 0 0) 1 24 Try.underlying109 hi hz0 hz1 hz2 rfl (by decide) _ _ _ rfl ((HO3.out.stored fs.length _).1.alloc _) ⟨W3.heap.size, 0, none⟩ 1 1 [.slice a₁ s.args.length c₁] rfl rfl (cell_one_at _ _ _ _ (by simp)) (by simp [Value.oneCell']) (by unfold maxLen; omega) (by omega) (by simp; omega) ?_); intro v' w1 hown' hgrow _)
                  have hf : Fr n₀ W.heap.size W3 (f.drop (j + 1)) (.slice (some ⟨b, o + (j + 1) * 2, none⟩) (f.length - (j + 1)) (c' - (j + 1))) := by
                    have h := Fr.tail (n₀ := n₀) (B := W.heap.size) (W := W3) hfc hcm hb HRW.out hlt
                    rw [if_neg hcj] at h
                    exact h
                  have hat := At.push HJ.out hn₀ HO3.out HF3.out HSA3.out HS.out HP.out HJ3.out hf hlen (by omega) HFST.out hown' hgrow
                  exact ⟨⟨_, hat⟩, AtX.lt hat (by rw [HK.out]; exact left_push HS.out fs)⟩
            · gi_wp2
              show bodyPost Try.prog Try.f73 (subPost t J Jx) .normal _ _
              go_end0
              refine ⟨⟨_, rfl⟩, .inr ⟨pre ++ [(fs.length + 1, s)], ?_, hJx3⟩⟩
              have h1 := HP.out
              rw [T.subss_drop _ HS.out, T.subs_eq] at h1
              exact ⟨T.subss (fs.length + 1 + 1) s.args ++ T.subss (fs.length + 1) (f.drop (j + 1)) ++ rest fs, by rw [← h1]; simp⟩
          · obtain rfl : j = f.length := by omega
            have hcap := ownsRow_cap HO.out
            unfold maxLen at hcap
            obtain ⟨hcap1, hcap2⟩ := hcap
            gi_wp2
            have hat := At.pop HO.out HF.out HP.out HJP.out hlen hsz2 HFST.out
            exact ⟨⟨_, hat⟩, AtX.lt hat (by rw [HK.out]; simp only [left]; omega)⟩

/-- **subterms(t)'s value visits all subterms, a term before its arguments, with their levels.** -/
theorem subterms_seqO (F : Fence) (n : Nat) (hF : F.fn 73) (hro : F.round = none) (hn : 1 ≤ n) (t : T) (ht : t.size ≤ 1000000) (Bt n₀ : Nat) (a : Option Addr) (c : Nat) (w : World)
    (hn₀ : n₀ ≤ w.heap.size) (hBt : Bt < w.heap.size) (hwf : (Lit.int .i64 t.head).wf = true) (hc0 : w.cell? ⟨Bt, 0, none⟩ = some (.int .i64 t.head)) (hc1 : w.cell? ⟨Bt, 1, none⟩ = some (.slice a t.args.length c)) (hA : IsArgs n₀ w t.args a c) :
    SeqO F n Try.prog 73 #[.pointer (some ⟨Bt, 0, none⟩)] n₀ 29 subOwn (subMay n₀ t) (fun xs => xs = T.subs 1 t) (fun pre => pre <+: T.subs 1 t) w := fun l J Jx W hW hJ _ hY h0 =>
  subterms1_in F n hF hro hn t ht l Bt n₀ a c J Jx W hJ (Nat.le_trans hn₀ hW.size) hwf ((hW.cell (p := ⟨Bt, 0, none⟩) hBt).trans hc0) ((hW.cell (p := ⟨Bt, 1, none⟩) hBt).trans hc1) (hA.below (hW.mono hn₀)) hY h0
theorem subterms_seq (F : Fence) (n : Nat) (hF : F.fn 73) (hro : F.round = none) (hn : 1 ≤ n) (t : T) (ht : t.size ≤ 1000000) (Bt n₀ : Nat) (a : Option Addr) (c : Nat) (w : World)
    (hn₀ : n₀ ≤ w.heap.size) (hBt : Bt < w.heap.size) (hwf : (Lit.int .i64 t.head).wf = true) (hc0 : w.cell? ⟨Bt, 0, none⟩ = some (.int .i64 t.head)) (hc1 : w.cell? ⟨Bt, 1, none⟩ = some (.slice a t.args.length c)) (hA : IsArgs n₀ w t.args a c) :
    SeqB F n Try.prog 73 #[.pointer (some ⟨Bt, 0, none⟩)] n₀ (subMay n₀ t) (fun xs => xs = T.subs 1 t) (fun pre => pre <+: T.subs 1 t) w :=
  (subterms_seqO F n hF hro hn t ht Bt n₀ a c w hn₀ hBt hwf hc0 hc1 hA).toB

theorem subMay.size {n₀ : Nat} {t : T} {pre : List (Nat × T)} {x : Nat × T} {vs : Array Value} {W : World} (h : subMay n₀ t pre x vs W) : vs.size = 2 := by
  obtain ⟨_, _, a, c, rfl, _⟩ := h; rfl
theorem subMay.below {n₀ : Nat} {t : T} {pre : List (Nat × T)} {x : Nat × T} {vs : Array Value} {W W' : World} (h : subMay n₀ t pre x vs W) (hb : Below n₀ W W') : subMay n₀ t pre x vs W' := by
  obtain ⟨h1, h2, a, c, h3, h4⟩ := h; exact ⟨h1, h2, a, c, h3, h4.below hb⟩
theorem subMay.length {n₀ : Nat} {t : T} {pre : List (Nat × T)} {x : Nat × T} {vs : Array Value} {W : World} (h : subMay n₀ t pre x vs W) : pre.length < t.size := by
  obtain ⟨h1, _⟩ := h
  have := h1.length_le
  rw [T.subs_length] at this; simp at this; omega

end Go.Proofs.Ytfkaecjdncjggaa
