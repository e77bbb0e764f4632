/- PMNo: joined of WMNo, PMNo. -/
import Derived.Test.YtcbjnfdhghhgeaaCount
import Derived.Test.YtcbjnfdhghhgeaaWMMa
import Derived.Test.YtcbjnfdhghhgeaaWMVa
import Derived.Test.YtcbjnfdhghhgeaaQ1j
/- WMNo: joined of RNo, WMNo, WNo2. -/
/- Contracts of the reference's Match, Variant, Vars, Number and Norm (layer 5). -/
namespace Go.Proofs.Ytcbjnfdhghhgeaa
set_option linter.unusedVariables false
set_option linter.unusedSimpArgs false
open Go.RowKit

set_option maxRecDepth 100000 in
set_option maxHeartbeats 2000000 in
theorem refMatch_any (p t : T) (hps : p.size ≤ 100000) (hts : t.size ≤ 100000) (n₀ : Nat) (a : Option Addr) (c : Nat) (a' : Option Addr) (c' : Nat) (w : World) (hn : n₀ ≤ w.heap.size) (hpw : (Lit.int .i64 p.head).wf = true) (htw : (Lit.int .i64 t.head).wf = true) (hA : IsArgs n₀ w p.args a c) (hA' : IsArgs n₀ w t.args a' c') :
    Calls Try.prog 67 #[tm p.head a p.args.length c, tm t.head a' t.args.length c'] w (MtPost p t w) := by
  have HPW := Lib.hid hpw
  have HTW := Lib.hid htw
  have d0 := ((((Later.below (Below.refl _ w)).and (later_args (hA'.mono hn))).and (later_args (hA.mono hn))).push (Below.refl _ _) p.head a p.args.length c).push (Below.refl _ _) t.head a' t.args.length c'
  rw [heap_alloc_size] at d0
  have D := Lib.hid d0
  clear hpw htw hA hA' d0
  go_enter Try.func67, Try.ntmps67
  go_wp2_with fail
  have hsz : ((w.alloc (.cells #[.int .i64 p.head, .slice a p.args.length c] 25)).alloc (.cells #[.int .i64 t.head, .slice a' t.args.length c'] 25)).heap.size = w.heap.size + 1 + 1 := by simp
  generalize (w.alloc (.cells #[.int .i64 p.head, .slice a p.args.length c] 25)).alloc (.cells #[.int .i64 t.head, .slice a' t.args.length c'] 25) = wB at D hsz ⊢
  have d1 := (D.out.pushC (Below.refl _ _) #[.int .i64 p.head, .slice a p.args.length c] 25).pushC (Below.refl _ _) #[.int .i64 t.head, .slice a' t.args.length c'] 25
  rw [heap_alloc_size, hsz] at d1
  have D1 := Lib.hid d1
  clear d1 hsz D
  generalize (wB.alloc (.cells #[.int .i64 p.head, .slice a p.args.length c] 25)).alloc (.cells #[.int .i64 t.head, .slice a' t.args.length c'] 25) = w1 at D1 ⊢
  refine (refMat_any [p] [t] (by simp [T.sizes]; omega) (by simp [T.sizes]; omega) w1.heap.size _ 1 _ 1 w1 (Nat.le_refl _) (alone_mem D1.out.now.2.1 HPW.out D1.out.now.2.2.2.2.1) (alone_mem D1.out.now.1 HTW.out D1.out.now.2.2.2.2.2.1)).mono ?_
  rintro e w2 ⟨s, b, k, hR, a2, c2, rfl, hS, hb⟩
  have HS := Lib.hid hS
  have HR := Lib.hid (matR_one hR)
  have HB := Lib.hid (D1.out w2 hb).2.2.2.2.2.2
  clear hS hR hb D1
  go_wp2
  refine bodyPost_ret (v := .tuple #[.slice a2 s.length c2, .bool b, .int .i64 k]) (by simp [results, Try.results67, go_sem]) rfl ?_
  exact ⟨s, b, k, a2, c2, rfl, HS.out, HB.out, HR.out⟩
theorem varR_of {x y : T} {s s' : Sb} {b b' : Bool} {k k' : Int} (h : MtR x y s b k) (h' : MtR y x s' b' k') : VarR x y (if k = 0 then b && b' else false) (if k = 0 then 0 else 1) ∧ (k = 0 ↔ k' = 0) := by
  rcases h with ⟨hb, rfl, rfl, rfl⟩ | ⟨hg, h⟩
  · refine ⟨.inl ⟨hb, by simp, by simp⟩, ?_⟩
    rcases h' with ⟨_, rfl, rfl, rfl⟩ | ⟨hg, _⟩
    · simp
    · rcases hb with hb | hb
      · exact absurd hg.2 hb
      · exact absurd hg.1 hb
  · have hk : k = 0 := by rcases h with ⟨_, _, _, h⟩ | ⟨_, _, _, _, h⟩ <;> exact h
    have hk' : k' = 0 := by
      rcases h' with ⟨hb, _⟩ | ⟨_, h'⟩
      · rcases hb with hb | hb
        · exact absurd hg.2 hb
        · exact absurd hg.1 hb
      · rcases h' with ⟨_, _, _, h⟩ | ⟨_, _, _, _, h⟩ <;> exact h
    refine ⟨.inr ⟨hg, ?_, by simp [hk]⟩, by simp [hk, hk']⟩
    rw [if_pos hk]
    have h1 : b = (x.ext y []).isSome := by rcases h with ⟨e, _, rfl, _⟩ | ⟨M, e, _, rfl, _⟩ <;> rw [e] <;> rfl
    have h2 : b' = (y.ext x []).isSome := by
      rcases h' with ⟨hb, _⟩ | ⟨_, h'⟩
      · rcases hb with hb | hb
        · exact absurd hg.2 hb
        · exact absurd hg.1 hb
      · rcases h' with ⟨e, _, rfl, _⟩ | ⟨M, e, _, rfl, _⟩ <;> rw [e] <;> rfl
    rw [h1, h2]

set_option maxRecDepth 100000 in
set_option maxHeartbeats 2000000 in
theorem refVariant_any (x y : T) (hxs : x.size ≤ 100000) (hys : y.size ≤ 100000) (n₀ : Nat) (a : Option Addr) (c : Nat) (a' : Option Addr) (c' : Nat) (w : World) (hn : n₀ ≤ w.heap.size) (hxw : (Lit.int .i64 x.head).wf = true) (hyw : (Lit.int .i64 y.head).wf = true) (hA : IsArgs n₀ w x.args a c) (hA' : IsArgs n₀ w y.args a' c') :
    Calls Try.prog 37 #[tm x.head a x.args.length c, tm y.head a' y.args.length c'] w (VarPost x y w) := by
  have HXW := Lib.hid hxw
  have HYW := Lib.hid hyw
  have d0 := ((((Later.below (Below.refl _ w)).and (later_args (hA'.mono hn))).and (later_args (hA.mono hn))).push (Below.refl _ _) x.head a x.args.length c).push (Below.refl _ _) y.head a' y.args.length c'
  rw [heap_alloc_size] at d0
  have D := Lib.hid d0
  clear hxw hyw hA hA' d0
  go_enter Try.func37, Try.ntmps37
  go_wp2_with fail
  generalize (w.alloc (.cells #[.int .i64 x.head, .slice a x.args.length c] 25)).alloc (.cells #[.int .i64 y.head, .slice a' y.args.length c'] 25) = w1 at D ⊢
  generalize hb0 : w.heap.size = b0 at D ⊢
  have HB0 := Lib.hid hb0
  clear hb0
  refine (refMatch_any x y hxs hys w1.heap.size a c a' c' w1 (Nat.le_refl _) HXW.out HYW.out D.out.now.2.2.1 D.out.now.2.2.2.1).mono ?_
  rintro e w2 ⟨s, b, k, as1, cs1, rfl, _, hb, hR⟩
  have D2 := Lib.hid (D.out.mv hb)
  have R1 := Lib.hid hR
  clear hb hR D
  obtain ⟨⟨y0, y1⟩, ⟨x0, x1⟩, _⟩ := D2.out.now
  go_wp2_with fail
  clear y0 y1 x0 x1
  refine (refMatch_any y x hys hxs w2.heap.size a' c' a c w2 (Nat.le_refl _) HYW.out HXW.out D2.out.now.2.2.2.1 D2.out.now.2.2.1).mono ?_
  rintro e w3 ⟨s', b', k', as2, cs2, rfl, _, hb, hR⟩
  have HQ := Lib.hid (D2.out w3 hb).2.2.2.2
  obtain ⟨hV, hkk⟩ := varR_of R1.out hR
  clear hb hR D2 R1
  by_cases qk : k = 0
  case neg =>
    have hne : (k == 0) = false := by simpa using qk
    rw [if_neg qk, if_neg qk] at hV
    have HV := Lib.hid hV
    clear hV hkk qk
    go_wp2
    refine bodyPost_ret (v := .tuple #[.bool false, .int .i64 1]) (by simp [results, Try.results37, go_sem]) rfl ?_
    exact ⟨false, 1, rfl, by rw [HB0.out]; exact HQ.out, HV.out⟩
  obtain rfl := hkk.1 qk
  subst qk
  rw [if_pos rfl, if_pos rfl] at hV
  have HV := Lib.hid hV
  clear hV hkk
  cases b <;> cases b'
  all_goals
    go_wp2
    refine bodyPost_ret (v := .tuple #[.bool _, .int .i64 0]) (by simp [results, Try.results37, go_sem]; rfl) rfl ?_
    exact ⟨_, 0, rfl, by rw [HB0.out]; exact HQ.out, HV.out⟩

theorem refVarsL_any (ts : List T) (hts : T.sizes ts ≤ 100000) (n₀ : Nat) (a : Option Addr) (c : Nat) (w : World) (hn : n₀ ≤ w.heap.size) (hA : IsArgs n₀ w ts a c) :
    Calls Try.prog 71 #[.slice a ts.length c] w (RvPost (T.rvs [] ts) w) := by
  have hb1 : Below w.heap.size w (w.alloc (.cells #[.int .i64 0, .slice a ts.length c] 25)) := (Below.refl _ _).alloc (Nat.le_refl _) _
  have CC := Lib.hid (refVars_any (T.node 0 ts).size (.node 0 ts) (Nat.le_refl _) (by simp only [T.size]; omega) n₀ a c (w.alloc (.cells #[.int .i64 0, .slice a ts.length c] 25)) (by simp; omega) (by simp [T.head]; decide) (hA.below (hb1.mono hn)))
  have HB := Lib.hid hb1
  clear hA hb1
  go_enter Try.func71, Try.ntmps71
  go_wp2_with fail
  refine CC.out.mono ?_
  rintro e w2 ⟨a2, c2, rfl, hI, hfr, hb⟩
  have hrv : (T.node 0 ts).rv = T.rvs [] ts := by rw [T.rv]; rfl
  rw [hrv] at hI ⊢
  have HI := Lib.hid hI
  have HF := Lib.hid (HB.out.trans (hb.mono (by simp)))
  have HFR := Lib.hid (show ∀ g o m, a2 = some ⟨g, o, m⟩ → w.heap.size ≤ g from fun g o m e => by have := hfr g o m e; simp at this; omega)
  clear hI hb hfr hrv
  go_wp2
  go_ret
  exact ⟨a2, c2, rfl, HI.out, HFR.out, HF.out⟩

end Go.Proofs.Ytcbjnfdhghhgeaa

/- Contracts of the reference's Number and Norm; the walk of MatchNorms. -/
namespace Go.Proofs.Ytcbjnfdhghhgeaa
set_option linter.unusedVariables false
set_option linter.unusedSimpArgs false
open Go.RowKit

/-! ### Number -/
def numS (V : List Int) : Sb := V.mapIdx (fun i v => (v, vt (i : Int)))
theorem numS_take {V : List Int} {k : Nat} {z : Int} (h : V[k]? = some z) : numS (V.take (k + 1)) = numS (V.take k) ++ [(z, vt (k : Int))] := by
  obtain ⟨hk, e⟩ := List.getElem?_eq_some_iff.1 h
  unfold numS
  rw [List.take_succ_eq_append_getElem hk, e, List.mapIdx_append]
  simp [Nat.min_eq_left (Nat.le_of_lt hk)]
theorem numS_length (V : List Int) : (numS V).length = V.length := by simp [numS]
theorem ofS_numS : ∀ (V : List Int) (s : Nat) (v : Int), v ∈ V → ofS (V.mapIdx (fun i v => (v, vt ((i + s : Nat) : Int)))) v = vt ((V.idxOf v + s : Nat) : Int)
  | [], s, v, h => by simp at h
  | u :: V, s, v, h => by
    rw [List.mapIdx_cons, ofS, List.idxOf_cons]
    by_cases e : u = v
    · subst e; simp
    · rw [if_neg e, show (u == v) = false from by simpa using e]
      have hv : v ∈ V := by
        rcases List.mem_cons.1 h with rfl | h
        · exact absurd rfl e
        · exact h
      have := ofS_numS V (s + 1) v hv
      simp only [cond_false]
      rw [show V.idxOf v + 1 + s = V.idxOf v + (s + 1) from by omega, ← this]
      congr 2
      funext i v
      rw [show i + 1 + s = i + (s + 1) from by omega]
theorem ofS_num {V : List Int} {v : Int} (h : v ∈ V) : ofS (numS V) v = vt (ix V v) := by
  have := ofS_numS V 0 v h
  simpa [numS, ix] using this
def NuI (V : List Int) (w : World) (s i : Value) (wr : World) : Prop := ∃ k : Nat, k ≤ V.length ∧ i = .int .i64 k ∧ GRow w.heap.size w.heap.size (numS (V.take k)) s wr ∧ Below w.heap.size w wr
def CutN (V : List Int) (k : Nat) (w wr : World) (v3 : Value) (wx : World) : Prop := GRow w.heap.size w.heap.size (numS (V.take (k + 1))) v3 wx ∧ Below w.heap.size wr wx

set_option maxRecDepth 100000 in
set_option maxHeartbeats 4000000 in
theorem refNumber_any (V : List Int) (hV : V.length ≤ 1000000000000) (hb : ∀ v ∈ V, 0 ≤ v ∧ v ≤ 255) (n₀ : Nat) (a : Option Addr) (c : Nat) (w : World) (hn : n₀ ≤ w.heap.size) (hI : IsIs n₀ w V a c) :
    Calls Try.prog 70 #[.slice a V.length c] w (SmPost (numS V) w) := by
  have hlc : V.length ≤ c ∧ c ≤ maxLen := ⟨hI.1, hI.2.1⟩
  unfold maxLen at hlc
  obtain ⟨hl1, hl2⟩ := hlc
  have HI := Lib.hid hI
  have HBD := Lib.hid hb
  clear hI hb
  obtain ⟨i0, hi, hz0, hz1, hz2⟩ := info_parts infoBind
  go_enter Try.func70, Try.ntmps70
  go_wp2
  go_loopw [3, 4] (fun s i wr => NuI V w s i wr) (fun _ i _ => V.length - (intOf i).toNat)
  case atStart => exact ⟨0, Nat.zero_le _, rfl, ⟨[], by simpa [numS] using World.ownsRow_nil _ _ _ _, by simp [numS, BVals]⟩, Below.refl _ _⟩
  case round =>
    obtain ⟨k, hk, rfl, hGR, hB⟩ := hrel
    have HGR := Lib.hid hGR
    have HB := Lib.hid hB
    have hbz := hB.size
    clear hGR hB
    by_cases hlt : k < V.length
    · have hk0 : (0 : Int) ≤ (k : Int) := Int.natCast_nonneg _
      have hk1 : (k : Int) < (V.length : Int) := by omega
      obtain ⟨b, o, z, rfl, hbn, hz, hc0⟩ := (HI.out.below (HB.out.mono hn)).elem (k := k) hlt
      obtain ⟨hzb0, hzb1⟩ := HBD.out z (List.mem_of_getElem? hz)
      have HZ := Lib.hid hz
      have hbw : b < wr.heap.size := by omega
      obtain ⟨xs, hrow, hbv⟩ := HGR.out
      have hln : (numS (V.take k)).length = k := by rw [numS_length, List.length_take]; omega
      rw [hln] at hrow
      have HBV := Lib.hid hbv
      have HROW := Lib.hid hrow
      have hkm : k + 1 ≤ maxLen := by unfold maxLen; omega
      clear hz hbv hrow
      go_wp2_with fail
      go_region_law (first
        | (refine step_append_lies _ (by rfl) _ _ _ (by rfl) w.heap.size 43 i0 _ 3 40 Try.underlying22 hi hz0 hz1 hz2 rfl (by omega) u3 k xs (by rfl) ((ownsRow_later HROW.out hB1).alloc _) ⟨u1.heap.size, 0, none⟩ 1 1 [.int .i64 z, .int .i64 (-1 - (k : Int)), .slice none 0 0] (by rfl) (by rfl) (World.news_of_block (cs := #[.int .i64 z, .int .i64 (-1 - (k : Int)), .slice none 0 0]) (t := 43) (fr := (0, 0)) (heap_alloc_new u1 _)) (by simp [Value.oneCell']) (by omega) hkm (by omega) (by simp; omega) (u1.heap.size + 1) (by simp) ?_; intro g cap w8 hown8 hgrow8 hat8 hlt8)
        | (go_simp; go_at_call 26; refine (refVar_any (k : Int) _ (by omega) (by omega)).mono ?_; rintro e u1 ⟨rfl, hu⟩; have hB1 : Below wr.heap.size wr u1 := ⟨hu.os, hu.tape, hu.output, hu.size, hu.block⟩; have hc1 := (hB1.cell (p := ⟨b, o + k, none⟩) hbw).trans hc0; have hz1' := hB1.size; have hbu : b < u1.heap.size := by omega))
      all_goals
        have hK8 := (keepT_grown (base := w.heap.size) ((ownsRow_later HROW.out hB1).alloc _) hgrow8 (by simp; omega)).1
        have hB8 : Below w.heap.size wr w8 := ((hB1.mono hbz).alloc (by omega) _).trans hK8
        have HB8 := Lib.hid hB8
        have HO8 := Lib.hid hown8
        clear hK8 hB8 hown8 hgrow8 hat8 hlt8 hB1 hc1 hz1' hbu hu
        go_wp2
        go_roundw
        case rel =>
          refine ⟨k + 1, by omega, by go_num, ⟨xs ++ [.int .i64 z, .int .i64 (-1 - (k : Int)), .slice none 0 0], by rw [numS_take HZ.out, List.length_append, hln]; exact HO8.out, ?_⟩, HB.out.trans HB8.out⟩
          rw [numS_take HZ.out]
          exact BVals.snoc (t := vt (k : Int)) (a := none) (c := 0) (WalkArith.wf_i64 ⟨by omega, by omega⟩) (wf_vt (by omega) (by omega)) ⟨by simp [vt, T.args], by simp [maxLen], .inl rfl⟩ (HBV.out.keep (fun b hb => HB8.out.block b hb) (fun _ h => h))
        case measure => simp [intOf]; omega
    · obtain rfl : k = V.length := by omega
      have hGR := HGR.out
      rw [List.take_length] at hGR
      obtain ⟨ar, cr, rfl, hIb⟩ := hGR.bs hbz
      have HIb := Lib.hid hIb
      clear hGR hIb HGR
      go_wp2
      go_ret
      exact ⟨ar, cr, rfl, HIb.out, HB.out⟩

/-! ### Norm -/
mutual
theorem T.nrm_rv (t : T) (hg : bad (T.subs 1 t) = false) (N : List Int) : (t.nrm N).2 = dd N t.rv := by
  match t with
  | .node h ts =>
    by_cases q : h < 0
    · rw [T.nrm_neg (t := .node h ts) q]
      have e2 : ts = [] := good_leaf (t := .node h ts) hg q
      subst e2
      simp only [T.head, T.rv, T.rvs, if_pos q]
      rfl
    · rw [T.nrm_pos (t := .node h ts) q]
      have hgs : ∀ s ∈ ts, bad (T.subs 1 s) = false := fun s hs => by obtain ⟨i, hi⟩ := List.getElem?_of_mem hs; exact good_arg (t := .node h ts) hg hi
      simp only [T.args, T.rv, if_neg q]
      rw [T.nrms_rv ts hgs N, T.rvs_dd]
      rfl
theorem T.nrms_rv (ts : List T) (hg : ∀ s ∈ ts, bad (T.subs 1 s) = false) (N : List Int) : (T.nrms ts N).2 = T.rvs N ts := by
  match ts with
  | [] => rfl
  | t :: ts =>
    simp only [T.nrms, T.rvs]
    rw [T.nrms_rv ts (fun s hs => hg s (by simp [hs])), T.nrm_rv t (hg t (by simp))]
end
theorem norm_put {ts : List T} (hg : ∀ s ∈ ts, bad (T.subs 1 s) = false) : (T.nrms ts []).1 = ts.map (T.sub (ofS (numS (T.rvs [] ts)))) ∧ ∀ v ∈ T.rvs [] ts, 0 ≤ v ∧ v ≤ 255 := by
  obtain ⟨_, h2, h3⟩ := T.nrms_sub ts hg []
  have h := h3 []
  rw [List.append_nil] at h
  rw [T.nrms_rv ts hg []] at h h2
  refine ⟨?_, fun v hv => ?_⟩
  · rw [h]
    apply List.map_congr_left
    intro s hs
    refine sub_congr_vars _ s (Nat.le_refl _) (hg s hs) fun g hg' hn => ?_
    have : -1 - g ∈ T.rvs [] ts := (h2 _).2 (.inr ⟨s, hs, (mem_vars' _ _).2 ⟨by rw [show -1 - (-1 - g) = g from by omega]; exact hg', by omega⟩⟩)
    exact (ofS_num this).symm
  · rcases (h2 v).1 hv with h | ⟨s, hs, h⟩
    · simp at h
    · exact vars1_bound (hg s hs) h
def okN (B : Nat) (v : Value) (wr : World) (b : Nat) : Prop := b < B ∨ (B ≤ b ∧ b < wr.heap.size ∧ v.ownBlock ≠ some b)
def RnI (us : List T) (wL : World) (out i : Value) (wr : World) : Prop :=
  ∃ (k : Nat) (xs : List Value), k ≤ us.length ∧ i = .int .i64 k ∧ wr.ownsRow wL.heap.size 25 2 out k xs ∧ RowVals (okN wL.heap.size out wr) wr (us.take k) xs ∧ Below wL.heap.size wL wr
theorem rn_step {us : List T} {wL wr w4 w5 : World} {k : Nat} {v : Value} {xs : List Value} {x : T} {a : Option Addr} {c g cap : Nat} {ob : Obj} (hx : us[k]? = some x) (hxw : (Lit.int .i64 x.head).wf = true) (hown : wr.ownsRow wL.heap.size 25 2 v k xs)
    (hrv : RowVals (okN wL.heap.size v wr) wr (us.take k) xs) (hB : Below wL.heap.size wL wr) (hB4 : Below wr.heap.size wr w4) (hA : IsArgsp (fun b => b < wL.heap.size ∨ wr.heap.size ≤ b ∧ b < w4.heap.size) w4 x.args a c)
    (hown5 : w5.ownsRow wL.heap.size 25 2 (.slice (some ⟨g, 0, none⟩) (k + 1) cap) (k + 1) (xs ++ [.int .i64 x.head, .slice a x.args.length c])) (hgrow : (w4.alloc ob).grownBy w5 v.ownBlock) (hat : v.ownBlock = some g ∨ g = w4.heap.size + 1) :
    RnI us wL (.slice (some ⟨g, 0, none⟩) (k + 1) cap) (.int .i64 ((k + 1 : Nat) : Int)) w5 := by
  obtain ⟨hk, hke⟩ := List.getElem?_eq_some_iff.1 hx
  have hlt := hown.lt
  have hL := hB.size
  have hz4 := hB4.size
  have hz5 : w4.heap.size + 1 ≤ w5.heap.size := by have := hgrow.size; simpa using this
  have hkeep : ∀ b, b < w4.heap.size → v.ownBlock ≠ some b → w5.heap[b]? = w4.heap[b]? := fun b h1 h2 => (hgrow.block b (by simp; omega) (fun e => h2 e.symm)).trans (Below.heap_alloc _ _ _ h1)
  have hg : ∀ b, b < w4.heap.size → v.ownBlock ≠ some b → g ≠ b := fun b h1 h2 e => by
    subst e
    rcases hat with h | h
    · exact h2 h
    · omega
  have hne : ∀ b, b < wL.heap.size → v.ownBlock ≠ some b := fun b hb e => by have := (hlt b e).1; omega
  refine ⟨k + 1, _, by omega, rfl, hown5, ?_, ?_⟩
  · rw [List.take_succ_eq_append_getElem hk, hke]
    refine RowVals.snoc hxw (hA.keep (fun b hb => hkeep b ?_ ?_) (fun b hb => ?_)) (hrv.keep (fun b hb => ?_) (fun b hb => ?_))
    · rcases hb with hb | hb <;> omega
    · rcases hb with hb | hb
      · exact hne b hb
      · exact fun e => by have := (hlt b e).2; omega
    · rcases hb with hb | hb
      · exact .inl hb
      · refine .inr ⟨by omega, by omega, ?_⟩
        simp only [Value.ownBlock, ne_eq, Option.some.injEq]
        exact hg b hb.2 (fun e => by have := (hlt b e).2; omega)
    · rcases hb with hb | hb
      · exact (hkeep b (by omega) (hne b hb)).trans (hB4.block b (by omega))
      · exact (hkeep b (by have := hb.2.1; omega) hb.2.2).trans (hB4.block b hb.2.1)
    · rcases hb with hb | hb
      · exact .inl hb
      · refine .inr ⟨hb.1, by have := hb.2.1; omega, ?_⟩
        simp only [Value.ownBlock, ne_eq, Option.some.injEq]
        exact hg b (by have := hb.2.1; omega) hb.2.2
  · exact ((hB.trans (hB4.mono hL)).alloc (by omega) _).grown hgrow (by simp; omega) (fun q hq => (hlt q hq).1)

set_option maxRecDepth 100000 in
set_option maxHeartbeats 4000000 in
theorem refNorm_any (ts : List T) (hts : T.sizes ts ≤ 100000) (n₀ : Nat) (a : Option Addr) (c : Nat) (w : World) (hn : n₀ ≤ w.heap.size) (hA : IsArgs n₀ w ts a c) :
    Calls Try.prog 39 #[.slice a ts.length c] w (NormPost ts w) := by
  have HTS := Lib.hid (show ∀ t ∈ ts, t.size ≤ 1000000000000 from fun t ht => by have := mem_sizes ht; omega)
  have hlc : ts.length ≤ c ∧ c ≤ maxLen := ⟨hA.1, hA.2.1⟩
  unfold maxLen at hlc
  obtain ⟨hl1, hl2⟩ := hlc
  have hlz := T.sizes_ge_length ts
  have HA := Lib.hid hA
  clear hA
  obtain ⟨i0, hi, hz0, hz1, hz2⟩ := info_parts infoTerm
  go_enter Try.func39, Try.ntmps39
  go_wp2_with fail
  refine (refAllR_any ts HTS.out n₀ a c w hn HA.out).mono ?_
  rintro e w1 ⟨rfl, hb⟩
  have HB1 := Lib.hid hb
  clear hb
  cases q1 : badL ts
  case true =>
    have Q1 := Lib.hid q1
    clear q1
    go_wp2
    refine bodyPost_ret (v := .tuple #[.slice none 0 0, .int .i64 1]) (by simp [results, Try.results39, go_sem]) rfl ?_
    exact ⟨.inl ⟨Q1.out, rfl⟩, HB1.out⟩
  have Q1 := Lib.hid q1
  clear q1
  have hgd : ∀ s ∈ ts, bad (T.subs 1 s) = false := fun s hs => (check_ok (badL_false Q1.out s hs)).2.2
  obtain ⟨hnp, hvb⟩ := norm_put hgd
  have hVl : (T.rvs [] ts).length ≤ 1000000000000 := by
    rw [← T.nrms_rv ts hgd []]
    have := T.nrms_len ts []
    simp at this
    omega
  obtain ⟨V, hVe⟩ : ∃ V, T.rvs [] ts = V := ⟨_, rfl⟩
  rw [hVe] at hnp hvb hVl
  have HNP := Lib.hid hnp
  have HVB := Lib.hid hvb
  have HVE := Lib.hid hVe
  clear hnp hvb hVe hgd
  go_wp2_with fail
  refine (refVarsL_any ts hts n₀ a c w1 (Nat.le_trans hn HB1.out.size) (HA.out.below (HB1.out.mono hn))).mono ?_
  rw [HVE.out]
  rintro e w2 ⟨av, cv, rfl, hI, _, hb⟩
  have HB2 := Lib.hid (HB1.out.trans (hb.mono HB1.out.size))
  have HIV := Lib.hid hI
  clear hI hb HB1
  go_wp2_with fail
  refine (refNumber_any V hVl HVB.out w2.heap.size av cv w2 (Nat.le_refl _) HIV.out).mono ?_
  rintro e wL ⟨as_, cs, rfl, hS, hb⟩
  have HBL := Lib.hid (HB2.out.trans (hb.mono HB2.out.size))
  have HS := Lib.hid hS
  have hzL := HBL.out.size
  clear hS hb HB2
  obtain ⟨us, hus⟩ : ∃ us, ts.map (T.sub (ofS (numS V))) = us := ⟨_, rfl⟩
  have hul : us.length = ts.length := by rw [← hus]; simp
  have HUL := Lib.hid hul
  have HUS := Lib.hid hus
  clear hul hus
  go_wp2
  go_loopw [5, 6] (fun out i wr => RnI us wL out i wr) (fun _ i _ => ts.length - (intOf i).toNat)
  case atStart => exact ⟨0, [], Nat.zero_le _, rfl, World.ownsRow_nil _ _ _ _, by simp [RowVals], Below.refl _ _⟩
  case round =>
    obtain ⟨k, xs, hk, rfl, hrow, hrv, hB⟩ := hrel
    have HROW := Lib.hid hrow
    have HRV := Lib.hid hrv
    have HB := Lib.hid hB
    have hbz := hB.size
    clear hrow hrv hB
    by_cases hlt : k < ts.length
    · have hk0 : (0 : Int) ≤ (k : Int) := Int.natCast_nonneg _
      have hk1 : (k : Int) < (ts.length : Int) := by omega
      obtain ⟨b, o, s, a', c', rfl, hbn, hs, hsw, hc1, hc2, hA'⟩ := ((HA.out.below (HBL.out.mono hn)).below (HB.out.mono (by omega))).elem (i := k) hlt
      have hbw : b < wr.heap.size := by omega
      have hsz := HTS.out s (List.mem_of_getElem? hs)
      have hux : us[k]? = some (s.sub (ofS (numS V))) := by rw [← HUS.out, List.getElem?_map, hs]; rfl
      have cc := refSub_any (numS V) s.size s (Nat.le_refl _) hsz wL.heap.size a' c' as_ cs wr (by omega) hsw (hA'.mono (by omega)) (HS.out.below HB.out)
      obtain ⟨x, hx⟩ : ∃ x, s.sub (ofS (numS V)) = x := ⟨_, rfl⟩
      rw [hx] at hux cc
      have HUX := Lib.hid hux
      have CC := Lib.hid cc
      have hkm : k + 1 ≤ maxLen := by unfold maxLen; omega
      clear hs hsw hA' hux cc hx
      go_wp2_with (first | (go_at_call 72; refine CC.out.mono ?_; rintro e w4 ⟨a2, c2, rfl, hwf4, hI4, hb4⟩; have hz4 := hb4.size) | (at_builtin; refine wpList_append_lies _ (by rfl) _ _ 23 (by rfl) wL.heap.size 25 i0 _ 2 32 Try.underlying23 hi hz0 hz1 hz2 rfl (by omega) _ k xs (by rfl) ((ownsRow_later HROW.out hb4).alloc _) ⟨w4.heap.size, 0, none⟩ 1 1 [.int .i64 x.head, .slice a2 x.args.length c2] (by rfl) (by rfl) (World.news_of_block (cs := #[.int .i64 x.head, .slice a2 x.args.length c2]) (t := 25) (fr := (0, 0)) (heap_alloc_new w4 _)) (by simp [Value.oneCell']) (by omega) hkm (by omega) (by simp; omega) (w4.heap.size + 1) (by simp) ?_; intro g cap w5 hown5 hgrow5 hat5 hlt5) | go_in)
      go_roundw
      case rel => exact rn_step HUX.out hwf4 HROW.out HRV.out HB.out hb4 hI4 hown5 hgrow5 hat5
      case measure => simp [intOf]; omega
    · obtain rfl : k = ts.length := by have := HUL.out; omega
      have hrow := HROW.out
      have hrv := HRV.out
      rw [← HUL.out] at hrow hrv
      rw [List.take_length] at hrv
      obtain ⟨ar, cr, rfl, hIa⟩ := argsp_of_owns (ok' := fun b => b < wr.heap.size) hrow hrv (fun b hb => by rcases hb with hb | hb <;> omega) (fun g hg => (hrow.lt g hg).2)
      have HIa := Lib.hid (isArgsp_lt.1 hIa)
      clear hrow hrv hIa HROW HRV
      go_wp2
      refine bodyPost_ret (v := .tuple #[.slice ar us.length cr, .int .i64 0]) (by simp [results, Try.results39, go_sem]) rfl ?_
      refine ⟨.inr ⟨Q1.out, ar, cr, ?_, ?_⟩, HBL.out.trans (HB.out.mono hzL)⟩
      · rw [HNP.out, HUS.out]
      · rw [HNP.out, HUS.out]; exact HIa.out

end Go.Proofs.Ytcbjnfdhghhgeaa

/- The walk of MatchNorms. -/
namespace Go.Proofs.Ytcbjnfdhghhgeaa
set_option linter.unusedVariables false
set_option linter.unusedSimpArgs false
open Go.RowKit

theorem VarR.fn {x y : T} {b b' : Bool} {k k' : Int} (h : VarR x y b k) (h' : VarR x y b' k') : b = b' ∧ k = k' := by
  rcases h with ⟨h1, rfl, rfl⟩ | ⟨⟨h1, h2⟩, rfl, rfl⟩ <;> rcases h' with ⟨g1, rfl, rfl⟩ | ⟨⟨g1, g2⟩, rfl, rfl⟩
  · exact ⟨rfl, rfl⟩
  · rcases h1 with h1 | h1
    · exact absurd g1 h1
    · exact absurd g2 h1
  · rcases g1 with g1 | g1
    · exact absurd h1 g1
    · exact absurd h2 g1
  · exact ⟨rfl, rfl⟩
mutual
theorem sub_ones (σ : Int → T) (hσ : ∀ v, (σ v).size = 1) (t : T) : (t.sub σ).size ≤ t.size := by
  match t with
  | .node h ts =>
    by_cases q : h < 0
    · rw [T.sub_neg (t := .node h ts) q, hσ]
      exact T.size_pos _
    · rw [T.sub_pos (t := .node h ts) q]
      have := subs_ones σ hσ ts
      simp only [T.size, T.args_node]
      omega
theorem subs_ones (σ : Int → T) (hσ : ∀ v, (σ v).size = 1) (ts : List T) : T.sizes (ts.map (T.sub σ)) ≤ T.sizes ts := by
  match ts with
  | [] => exact Nat.le_refl _
  | t :: ts =>
    have h1 := sub_ones σ hσ t
    have h2 := subs_ones σ hσ ts
    simp only [List.map_cons, T.sizes]
    omega
end
/-- What Norm gives back, in one form: a row and a number, both the same whoever is asked. -/
theorem norm_same {ts : List T} (hts : T.sizes ts ≤ 500) : ∃ (ns : List T) (k : Int), (∀ t ∈ ns, t.size ≤ 1000000000000) ∧ ∀ (w : World) (e : Ending) (w' : World), NormPost ts w e w' → ∃ a c, e = .returned (.tuple #[.slice a ns.length c, .int .i64 k]) ∧ IsArgs w'.heap.size w' ns a c ∧ Below w.heap.size w w' := by
  cases q : badL ts
  case true =>
    refine ⟨[], 1, by simp, fun w e w' h => ?_⟩
    rcases h with ⟨⟨_, rfl⟩ | ⟨h1, _⟩, hb⟩
    · exact ⟨none, 0, rfl, ⟨Nat.le_refl _, by simp [maxLen], .inl rfl⟩, hb⟩
    · rw [q] at h1; cases h1
  case false =>
    have hgd : ∀ s ∈ ts, bad (T.subs 1 s) = false := fun s hs => (check_ok (badL_false q s hs)).2.2
    refine ⟨(T.nrms ts []).1, 0, fun t ht => ?_, fun w e w' h => ?_⟩
    · have h := (T.nrms_sub ts hgd []).2.2 []
      rw [h] at ht
      have := mem_sizes ht
      have := subs_ones (fun v => vt (ix ((T.nrms ts []).2 ++ []) v)) (fun v => by simp [vt, T.size, T.sizes]) ts
      omega
    · rcases h with ⟨⟨h1, _⟩ | ⟨_, a, c, rfl, hI⟩, hb⟩
      · rw [q] at h1; cases h1
      · exact ⟨a, c, rfl, hI, hb⟩

set_option maxRecDepth 100000 in
set_option maxHeartbeats 4000000 in
theorem matchNorms_walk (x y : T) (ts : List T) (a : Option Addr) (c : Nat) (a' : Option Addr) (c' : Nat) (al : Option Addr) (cl : Nat) (w : World) (hxw : (Lit.int .i64 x.head).wf = true) (hyw : (Lit.int .i64 y.head).wf = true) (hA : IsArgs w.heap.size w x.args a c) (hB : IsArgs w.heap.size w y.args a' c') (hL : IsArgs w.heap.size w ts al cl) :
    Calls Try.prog 9 #[tm x.head a x.args.length c, tm y.head a' y.args.length c', .slice al ts.length cl] w fun e w' => e = .returned (.bool true) ∧ Below w.heap.size w w' := by
  have HXW := Lib.hid hxw
  have HYW := Lib.hid hyw
  have d0 := (((((Later.below (Below.refl _ w)).and (later_args hL)).and (later_args hB)).and (later_args hA)).push (Below.refl _ _) x.head a x.args.length c).push (Below.refl _ _) y.head a' y.args.length c'
  simp only [heap_alloc_size] at d0
  have D := Lib.hid d0
  clear hxw hyw hA hB hL d0
  go_enter Try.func9, Try.ntmps9
  go_wp2_with fail
  generalize (w.alloc (.cells #[.int .i64 x.head, .slice a x.args.length c] 25)).alloc (.cells #[.int .i64 y.head, .slice a' y.args.length c'] 25) = w1 at D ⊢
  generalize hb0 : w.heap.size = b0 at D ⊢
  have HB0 := Lib.hid hb0
  clear hb0
  refine (few_any x w1.heap.size a c w1 (Nat.le_refl _) D.out.now.2.2.1).mono ?_
  rintro e w2 ⟨rfl, hb⟩
  have D2 := Lib.hid (D.out.mv hb)
  clear hb D
  by_cases hx5 : x.size ≤ 500
  case neg =>
    rw [decide_eq_false hx5]
    have HQ := Lib.hid D2.out.now.2.2.2.2.2
    clear D2
    go_wp2
    go_ret
    exact ⟨rfl, by rw [HB0.out]; exact HQ.out⟩
  rw [decide_eq_true hx5]
  obtain ⟨⟨y0, y1⟩, ⟨x0, x1⟩, _⟩ := D2.out.now
  go_wp2_with fail
  clear y0 y1 x0 x1
  refine (few_any y w2.heap.size a' c' w2 (Nat.le_refl _) D2.out.now.2.2.2.1).mono ?_
  rintro e w3 ⟨rfl, hb⟩
  have D3 := Lib.hid (D2.out.mv hb)
  clear hb D2
  by_cases hy5 : y.size ≤ 500
  case neg =>
    rw [decide_eq_false hy5]
    have HQ := Lib.hid D3.out.now.2.2.2.2.2
    clear D3
    go_wp2
    go_ret
    exact ⟨rfl, by rw [HB0.out]; exact HQ.out⟩
  rw [decide_eq_true hy5]
  go_wp2_with fail
  refine (few5_any ts w3.heap.size al cl w3 (Nat.le_refl _) D3.out.now.2.2.2.2.1).mono ?_
  rintro e w4 ⟨f1, rfl, hfew, hb⟩
  have D4 := Lib.hid (D3.out.mv hb)
  clear hb D3
  cases f1
  case false =>
    have HQ := Lib.hid D4.out.now.2.2.2.2.2
    clear D4 hfew
    go_wp2
    go_ret
    exact ⟨rfl, by rw [HB0.out]; exact HQ.out⟩
  have hts := hfew rfl
  obtain ⟨ns, kn, hns, hN⟩ := norm_same hts
  have HNS := Lib.hid hns
  have HN := Lib.hid hN
  clear hfew hns hN
  obtain ⟨⟨y0, y1⟩, ⟨x0, x1⟩, _⟩ := D4.out.now
  go_wp2_with fail
  clear y0 y1 x0 x1
  refine (variant_any x y (by omega) (by omega) w4.heap.size a c a' c' w4 (Nat.le_refl _) HXW.out HYW.out D4.out.now.2.2.1 D4.out.now.2.2.2.1).mono ?_
  rintro e w5 ⟨bv, kv, rfl, hb, hV⟩
  have D5 := Lib.hid (D4.out.mv hb)
  have HV := Lib.hid hV
  clear hb hV D4
  obtain ⟨⟨y0, y1⟩, ⟨x0, x1⟩, _⟩ := D5.out.now
  go_wp2_with fail
  clear y0 y1 x0 x1
  refine (refVariant_any x y (by omega) (by omega) w5.heap.size a c a' c' w5 (Nat.le_refl _) HXW.out HYW.out D5.out.now.2.2.1 D5.out.now.2.2.2.1).mono ?_
  rintro e w6 ⟨bv', kv', rfl, hb, hV⟩
  obtain ⟨rfl, rfl⟩ := HV.out.fn hV
  have D6 := Lib.hid (D5.out.mv hb)
  clear hb hV D5 HV
  go_wp2_with fail
  refine (norm_any ts (by omega) w6.heap.size al cl w6 (Nat.le_refl _) D6.out.now.2.2.2.2.1).mono ?_
  intro e w7 hP
  obtain ⟨am, cm, rfl, hI, hb⟩ := HN.out _ _ _ hP
  have D7 := Lib.hid ((D6.out.mv hb).and (later_args hI))
  clear hb hI hP D6
  go_wp2_with fail
  refine (refNorm_any ts (by omega) w7.heap.size al cl w7 (Nat.le_refl _) D7.out.now.2.2.2.2.2.1).mono ?_
  intro e w8 hP
  obtain ⟨an, cn, rfl, hI, hb⟩ := HN.out _ _ _ hP
  have D8 := Lib.hid ((D7.out.mv hb).and (later_args hI))
  clear hb hI hP D7 HN
  go_wp2_with fail
  refine (awake5_any w8).mono ?_
  rintro e w9 ⟨rfl, hb⟩
  have D9 := Lib.hid (D8.out.mv hb)
  clear hb D8
  have hbeq : (bv == bv) = true := by simp
  have hkeq : (kv == kv) = true := by simp
  have hneq : (kn == kn) = true := by simp
  go_wp2_with fail
  refine (terms_any ns HNS.out w9.heap.size am cm an cn w9 (Nat.le_refl _) D9.out.now.2.1 D9.out.now.1).mono ?_
  rintro e w10 ⟨rfl, hb⟩
  have HQ := Lib.hid (D9.out w10 hb).2.2.2.2.2.2.2
  clear hb D9
  go_wp2
  go_ret
  exact ⟨by simp, by rw [HB0.out]; exact HQ.out⟩

end Go.Proofs.Ytcbjnfdhghhgeaa

/- Proved: for all arguments that can be read, MatchNorms returns true, and the arguments read afterwards as before. No condition beyond the row's own. -/
namespace Go.Proofs.Ytcbjnfdhghhgeaa
open Go.ChangeShapes Go.WideShapes Go.ChangeAt Go.RowKit

set_option maxRecDepth 100000 in
theorem matchNorms_lifted (os : Os) (started : os.Started) (H : Type) (enc : TypeId × Value → H) :
    ReturnsInHanded {} Try.checked os 9 .any (Rows.matchNormsSpec.pre6 enc Try.prog Try.f9 Rows.matchNormsRow.domain false) (Rows.matchNormsSpec.post enc Try.prog Try.f9 false true false false) := by
  refine returnsInHanded_of_change (C := Try.checked) own started (by kernel_rfl) Try.func9
    (ChangeSpec.witness6 (enc := enc) (C := Try.checked) false ⟨#[], #[.agg #[.int .i64 0, .slice none 0 0], .agg #[.int .i64 0, .slice none 0 0], .slice none 0 0], []⟩ 8 (by kernel_rfl) (by kernel_rfl) (by kernel_rfl) (by kernel_rfl)) ?_
  intro W base args ds gs before hval hW _ _
  have hW' := hW
  obtain ⟨p, q, hA0, hV, rfl, _, _⟩ := hW
  have hA : DataW.TrodAll enc Try.prog W 0 (fun _ => true) true Try.f9.params.toList args.toList ds p := hA0
  have hval' : ∀ (j : Nat) t v, Try.f9.params[j]? = some t → args[j]? = some v → Value.okWide Try.prog W .any base t v := hval
  rw [Try.params9] at hA hval'
  obtain ⟨v0, v1, v2, d0, d1, d2, p0, p1, p2, rfl, rfl, rfl, h0, h1, h2⟩ := trodAll_three hA
  obtain ⟨x0, a0, c0, rfl, hw0, m0⟩ := open_term (hval' 0 _ v0 rfl rfl) h0
  obtain ⟨x1, a1, c1, rfl, hw1, m1⟩ := open_term (hval' 1 _ v1 rfl rfl) h1
  obtain ⟨x2, a2, c2, rfl, m2⟩ := open_terms (hval' 2 _ v2 rfl rfl) h2
  refine (matchNorms_walk x0 x1 x2 a0 c0 a1 c1 a2 c2 W hw0 hw1 m0 m1 m2).mono fun e W' ⟨he, hb⟩ => ?_
  subst he
  exact ⟨_, rfl, post_law laid Try.underlying4 (by kernel_rfl) rfl (of_decide_eq_true (by kernel_rfl)) (fun gs hg => by subst hg; rfl) hW' hb⟩

theorem matchNorms_holds : Rows.MatchNormsSaid :=
  OpenClaim.holds_of_wide 9 Try.f9 rfl rfl rfl rfl rfl rfl rfl ⟨rfl, rfl, rfl, rfl, rfl⟩ rfl rfl rfl rfl rfl (by kernel_rfl) Try.func9 (by kernel_rfl)
    (of_decide_eq_true (by kernel_rfl)) (by unfold Func.isWrapper; first | (rw [if_pos (by decide +kernel)]; kernel_rfl) | (rw [if_neg (by decide +kernel)]; exact ⟨rfl, rfl⟩))
    (fun os started H enc _ => matchNorms_lifted os started H enc)

end Go.Proofs.Ytcbjnfdhghhgeaa
