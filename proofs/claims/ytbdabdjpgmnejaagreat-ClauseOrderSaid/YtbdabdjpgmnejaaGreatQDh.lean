/- QDh: joined of Gr0, Ix, Nu, RRg, Ba0, RAr, Pu10, No10, Te0, REnd, Hr0. -/
import Derived.Test.YtbdabdjpgmnejaaGreatQDg
import Derived.Test.YtbdabdjpgmnejaaGreatQBh
import Derived.Test.YtbdabdjpgmnejaaGreatQBf
import Derived.Test.YtbdabdjpgmnejaaGreatQDb
import Derived.Test.YtbdabdjpgmnejaaGreatQBm
import Derived.StillTailTactics
import Derived.Deep.AppendLies
import Derived.Deep.RegionHeld3
import Derived.Deep.RegionLaw
import Derived.Deep.CutRange
import Derived.Test.YtbdabdjpgmnejaaGreatQBn
import Derived.Test.YtbdabdjpgmnejaaGreatQBg
import Derived.Test.YtbdabdjpgmnejaaGreatQDe
import Derived.Maps.OwnSet
/- Rows of bindings that are built up. -/
namespace Go.Proofs.YtbdabdjpgmnejaaGreat
set_option linter.unusedVariables false
set_option linter.unusedSimpArgs false
open Go.RowKit

/-- All below a bound, and all terms, are as before. -/
def KeepT (base : Nat) (w w' : World) : Prop := Below base w w' ∧ ∀ (b : Nat) (cs : Array Value) (fz : Nat × Nat), w.heap[b]? = some (.cells cs 34 fz) → w'.heap[b]? = w.heap[b]?
theorem KeepT.trans {base : Nat} {a b c : World} (h : KeepT base a b) (k : KeepT base b c) : KeepT base a c := ⟨h.1.trans k.1, fun q cs fz hq => (k.2 q cs fz ((h.2 q cs fz hq).trans hq)).trans (h.2 q cs fz hq)⟩
theorem keepT_of_below {base : Nat} {a b : World} (h : Below a.heap.size a b) (hb : base ≤ a.heap.size) : KeepT base a b := ⟨h.mono hb, fun q cs fz hq => h.block q (Array.getElem?_eq_some_iff.1 hq).1⟩
theorem keepT_grown {base : Nat} {a b : World} {v : Value} {n : Nat} {xs : List Value} (ho : a.ownsRow base 124 3 v n xs) (h : a.grownBy b v.ownBlock) (hb : base ≤ a.heap.size) : KeepT base a b := by
  refine ⟨(Below.refl base a).grown h hb (fun q hq => (ho.lt q hq).1), fun q cs fz hq => h.block q (Array.getElem?_eq_some_iff.1 hq).1 (fun e => ?_)⟩
  obtain ⟨cs', fz', h'⟩ := Lib.ownsRow_kind ho q e.symm
  rw [hq] at h'
  cases h'
/-- A list of bindings that is built up: a row of one's own, its terms below n₀. -/
def GRow (n₀ base : Nat) (M : Sb) (v : Value) (w : World) : Prop := ∃ xs, w.ownsRow base 124 3 v M.length xs ∧ BVals (fun b => b < n₀) w M xs
theorem GRow.bs {n₀ base : Nat} {M : Sb} {v : Value} {w : World} (h : GRow n₀ base M v w) (hn : n₀ ≤ w.heap.size) : ∃ a c, v = .slice a M.length c ∧ IsBs w.heap.size w M a c := by
  obtain ⟨xs, h1, h2⟩ := h
  exact isBs_of_owns h1 h2 (fun b hb => by omega) (fun g hg => (h1.lt g hg).2)
theorem GRow.below {n₀ base : Nat} {M : Sb} {v : Value} {w w' : World} (h : GRow n₀ base M v w) (hn : n₀ ≤ w.heap.size) (hb : Below w.heap.size w w') : GRow n₀ base M v w' := by
  obtain ⟨xs, h1, h2⟩ := h
  exact ⟨xs, ownsRow_later h1 hb, h2.keep (fun b hb' => hb.block b (by omega)) (fun _ h => h)⟩
def SmPost (s : Sb) (w : World) (e : Ending) (w' : World) : Prop := ∃ a c, e = .returned (.slice a s.length c) ∧ IsBs w'.heap.size w' s a c ∧ Below w.heap.size w w'

end Go.Proofs.YtbdabdjpgmnejaaGreat

/- Places in rows of numbers. -/
namespace Go.Proofs.YtbdabdjpgmnejaaGreat
set_option linter.unusedVariables false
set_option linter.unusedSimpArgs false
open Go.RowKit

def ix (N : List Int) (v : Int) : Int := (N.idxOf v : Nat)
theorem ix_old {N : List Int} {u v : Int} (h : u ∈ N) : ix (N ++ [v]) u = ix N u := by
  unfold ix
  rw [List.idxOf_append, if_pos h]
theorem ix_new {N : List Int} {v : Int} (h : v ∉ N) : ix (N ++ [v]) v = N.length := by
  unfold ix
  rw [List.idxOf_append, if_neg h]
  simp

end Go.Proofs.YtbdabdjpgmnejaaGreat

/- Contract of the document's Number (layer 5). -/
namespace Go.Proofs.YtbdabdjpgmnejaaGreat
set_option linter.unusedVariables false
set_option linter.unusedSimpArgs false
open Go.RowKit

/-! ### Number -/
def numS (V : List Int) : Sb := V.mapIdx (fun i v => (v, vt (i : Int)))
theorem numS_take {V : List Int} {k : Nat} {z : Int} (h : V[k]? = some z) : numS (V.take (k + 1)) = numS (V.take k) ++ [(z, vt (k : Int))] := by
  obtain ⟨hk, e⟩ := List.getElem?_eq_some_iff.1 h
  unfold numS
  rw [List.take_succ_eq_append_getElem hk, e, List.mapIdx_append]
  simp [Nat.min_eq_left (Nat.le_of_lt hk)]
theorem numS_length (V : List Int) : (numS V).length = V.length := by simp [numS]
theorem ofS_numS : ∀ (V : List Int) (s : Nat) (v : Int), v ∈ V → ofS (V.mapIdx (fun i v => (v, vt ((i + s : Nat) : Int)))) v = vt ((V.idxOf v + s : Nat) : Int)
  | [], s, v, h => by simp at h
  | u :: V, s, v, h => by
    rw [List.mapIdx_cons, ofS, List.idxOf_cons]
    by_cases e : u = v
    · subst e; simp
    · rw [if_neg e, show (u == v) = false from by simpa using e]
      have hv : v ∈ V := by
        rcases List.mem_cons.1 h with rfl | h
        · exact absurd rfl e
        · exact h
      have := ofS_numS V (s + 1) v hv
      simp only [cond_false]
      rw [show V.idxOf v + 1 + s = V.idxOf v + (s + 1) from by omega, ← this]
      congr 2
      funext i v
      rw [show i + 1 + s = i + (s + 1) from by omega]
theorem ofS_num {V : List Int} {v : Int} (h : v ∈ V) : ofS (numS V) v = vt (ix V v) := by
  have := ofS_numS V 0 v h
  simpa [numS, ix] using this
def NuI (V : List Int) (w : World) (s i : Value) (wr : World) : Prop := ∃ k : Nat, k ≤ V.length ∧ i = .int .i64 k ∧ GRow w.heap.size w.heap.size (numS (V.take k)) s wr ∧ Below w.heap.size w wr
def CutN (V : List Int) (k : Nat) (w wr : World) (v3 : Value) (wx : World) : Prop := GRow w.heap.size w.heap.size (numS (V.take (k + 1))) v3 wx ∧ Below w.heap.size wr wx

set_option maxRecDepth 100000 in
set_option maxHeartbeats 4000000 in
theorem refNumber_any (V : List Int) (hV : V.length ≤ 1000000000000) (hb : ∀ v ∈ V, 0 ≤ v ∧ v ≤ 255) (n₀ : Nat) (a : Option Addr) (c : Nat) (w : World) (hn : n₀ ≤ w.heap.size) (hI : IsIs n₀ w V a c) :
    Calls Tryz.prog 65 #[.slice a V.length c] w (SmPost (numS V) w) := by
  have hlc : V.length ≤ c ∧ c ≤ maxLen := ⟨hI.1, hI.2.1⟩
  unfold maxLen at hlc
  obtain ⟨hl1, hl2⟩ := hlc
  have HI := Lib.hid hI
  have HBD := Lib.hid hb
  clear hI hb
  obtain ⟨i0, hi, hz0, hz1, hz2⟩ := info_parts infoBind
  go_enter Tryz.func65, Tryz.ntmps65
  go_wp2
  go_loopw [3, 4] (fun s i wr => NuI V w s i wr) (fun _ i _ => V.length - (intOf i).toNat)
  case atStart => exact ⟨0, Nat.zero_le _, rfl, ⟨[], by simpa [numS] using World.ownsRow_nil _ _ _ _, by simp [numS, BVals]⟩, Below.refl _ _⟩
  case round =>
    obtain ⟨k, hk, rfl, hGR, hB⟩ := hrel
    have HGR := Lib.hid hGR
    have HB := Lib.hid hB
    have hbz := hB.size
    clear hGR hB
    by_cases hlt : k < V.length
    · have hk0 : (0 : Int) ≤ (k : Int) := Int.natCast_nonneg _
      have hk1 : (k : Int) < (V.length : Int) := by omega
      obtain ⟨b, o, z, rfl, hbn, hz, hc0⟩ := (HI.out.below (HB.out.mono hn)).elem (k := k) hlt
      obtain ⟨hzb0, hzb1⟩ := HBD.out z (List.mem_of_getElem? hz)
      have HZ := Lib.hid hz
      have hbw : b < wr.heap.size := by omega
      obtain ⟨xs, hrow, hbv⟩ := HGR.out
      have hln : (numS (V.take k)).length = k := by rw [numS_length, List.length_take]; omega
      rw [hln] at hrow
      have HBV := Lib.hid hbv
      have HROW := Lib.hid hrow
      have hkm : k + 1 ≤ maxLen := by unfold maxLen; omega
      clear hz hbv hrow
      go_wp2_with fail
      go_region_law (first
        | (refine step_append_lies _ (by rfl) _ _ _ (by rfl) w.heap.size 124 i0 _ 3 40 Tryz.underlying82 hi hz0 hz1 hz2 rfl (by omega) u3 k xs (by rfl) ((ownsRow_later HROW.out hB1).alloc _) ⟨u1.heap.size, 0, none⟩ 1 1 [.int .i64 z, .int .i64 (-1 - (k : Int)), .slice none 0 0] (by rfl) (by rfl) (World.news_of_block (cs := #[.int .i64 z, .int .i64 (-1 - (k : Int)), .slice none 0 0]) (t := 124) (fr := (0, 0)) (heap_alloc_new u1 _)) (by simp [Value.oneCell']) (by omega) hkm (by omega) (by simp; omega) (u1.heap.size + 1) (by simp) ?_; intro g cap w8 hown8 hgrow8 hat8 hlt8)
        | (go_simp; go_at_call 38; refine (refVar_any (k : Int) _ (by omega) (by omega)).mono ?_; rintro e u1 ⟨rfl, hu⟩; have hB1 : Below wr.heap.size wr u1 := ⟨hu.os, hu.tape, hu.output, hu.size, hu.block⟩; have hc1 := (hB1.cell (p := ⟨b, o + k, none⟩) hbw).trans hc0; have hz1' := hB1.size; have hbu : b < u1.heap.size := by omega))
      all_goals
        have hK8 := (keepT_grown (base := w.heap.size) ((ownsRow_later HROW.out hB1).alloc _) hgrow8 (by simp; omega)).1
        have hB8 : Below w.heap.size wr w8 := ((hB1.mono hbz).alloc (by omega) _).trans hK8
        have HB8 := Lib.hid hB8
        have HO8 := Lib.hid hown8
        clear hK8 hB8 hown8 hgrow8 hat8 hlt8 hB1 hc1 hz1' hbu hu
        go_wp2
        go_roundw
        case rel =>
          refine ⟨k + 1, by omega, by go_num, ⟨xs ++ [.int .i64 z, .int .i64 (-1 - (k : Int)), .slice none 0 0], by rw [numS_take HZ.out, List.length_append, hln]; exact HO8.out, ?_⟩, HB.out.trans HB8.out⟩
          rw [numS_take HZ.out]
          exact BVals.snoc (t := vt (k : Int)) (a := none) (c := 0) (WalkArith.wf_i64 ⟨by omega, by omega⟩) (wf_vt (by omega) (by omega)) ⟨by simp [vt, T.args], by simp [maxLen], .inl rfl⟩ (HBV.out.keep (fun b hb => HB8.out.block b hb) (fun _ h => h))
        case measure => simp [intOf]; omega
    · obtain rfl : k = V.length := by omega
      have hGR := HGR.out
      rw [List.take_length] at hGR
      obtain ⟨ar, cr, rfl, hIb⟩ := hGR.bs hbz
      have HIb := Lib.hid hIb
      clear hGR hIb HGR
      go_wp2
      go_ret
      exact ⟨ar, cr, rfl, HIb.out, HB.out⟩

end Go.Proofs.YtbdabdjpgmnejaaGreat

/- Contract of the reference's Right (split off RCk). -/
namespace Go.Proofs.YtbdabdjpgmnejaaGreat
set_option linter.unusedVariables false
set_option linter.unusedSimpArgs false
open Go.RowKit

theorem refRight_any (t : T) (ht : t.size ≤ 1000000000000) (n₀ : Nat) (a : Option Addr) (c : Nat) (w : World) (hn : n₀ ≤ w.heap.size) (hA : IsArgs n₀ w t.args a c) :
    Calls Tryz.prog 66 #[tm t.head a t.args.length c] w fun e w' => e = .returned (.bool (decide (t.check = 0))) ∧ Below w.heap.size w w' := by
  have hb1 := (Below.refl w.heap.size w).alloc (Nat.le_refl _) (tmCells t.head a t.args.length c)
  have HC := Lib.hid (refCheck_any t ht n₀ a c (w.alloc (tmCells t.head a t.args.length c)) (by simp; omega) (hA.below (hb1.mono hn)))
  have HB := Lib.hid hb1
  clear hb1 hA
  go_enter Tryz.func66, Tryz.ntmps66
  go_wp2_with fail
  refine HC.out.mono ?_
  rintro e w2 ⟨rfl, hb2⟩
  have HB2 := Lib.hid (HB.out.trans (hb2.mono HB.out.size))
  clear hb2
  go_wp2
  go_ret
  refine ⟨?_, HB2.out⟩
  rfl

end Go.Proofs.YtbdabdjpgmnejaaGreat

/- Rows with a bad term; plain. -/
namespace Go.Proofs.YtbdabdjpgmnejaaGreat
set_option linter.unusedVariables false
set_option linter.unusedSimpArgs false
open Go.RowKit

def badL (ts : List T) : Bool := ts.any fun t => decide (t.check ≠ 0)
def IdxI (ts : List T) (w : World) (i : Value) (wr : World) : Prop := ∃ k : Nat, k ≤ ts.length ∧ i = .int .i64 k ∧ badL ts = badL (ts.drop k) ∧ Below w.heap.size w wr

end Go.Proofs.YtbdabdjpgmnejaaGreat

/- Contract of the reference's All (layer 1). -/
namespace Go.Proofs.YtbdabdjpgmnejaaGreat
set_option linter.unusedVariables false
set_option linter.unusedSimpArgs false
open Go.RowKit

set_option maxRecDepth 100000 in
set_option maxHeartbeats 2000000 in
theorem refAllR_any (ts : List T) (hts : ∀ t ∈ ts, t.size ≤ 1000000000000) (n₀ : Nat) (a : Option Addr) (c : Nat) (w : World) (hn : n₀ ≤ w.heap.size) (hA : IsArgs n₀ w ts a c) :
    Calls Tryz.prog 34 #[.slice a ts.length c] w fun e w' => e = .returned (.bool (!badL ts)) ∧ Below w.heap.size w w' := by
  have hlc : ts.length ≤ c ∧ c ≤ maxLen := ⟨hA.1, hA.2.1⟩
  unfold maxLen at hlc
  obtain ⟨hl1, hl2⟩ := hlc
  have HA := Lib.hid hA
  have HT := Lib.hid hts
  clear hA hts
  go_enter Tryz.func34, Tryz.ntmps34
  go_wp2
  go_loopw [3] (fun i wr => IdxI ts w i wr) (fun i _ => ts.length - (intOf i).toNat)
  case atStart => exact ⟨0, Nat.zero_le _, rfl, by simp, Below.refl _ _⟩
  case round =>
    obtain ⟨k, hk, rfl, hbd, hB⟩ := hrel
    have HBD := Lib.hid hbd
    have HB := Lib.hid hB
    have hbz := hB.size
    clear hbd hB
    by_cases hlt : k < ts.length
    · obtain ⟨b, o, s, a', c', rfl, hbn, hs, hswf, hc1, hc2, hA'⟩ := (HA.out.below (HB.out.mono hn)).elem (i := k) hlt
      have hk0 : (0 : Int) ≤ (k : Int) := Int.natCast_nonneg _
      have hk1 : (k : Int) < (ts.length : Int) := by omega
      have hbw : b < wr.heap.size := by omega
      have CN := Lib.hid (refRight_any s (HT.out s (List.mem_of_getElem? hs)) n₀ a' c' wr (by omega) hA')
      have hst : badL (ts.drop k) = (decide (s.check ≠ 0) || badL (ts.drop (k + 1))) := by
        obtain ⟨hkl, hke⟩ := List.getElem?_eq_some_iff.1 hs
        rw [List.drop_eq_getElem_cons hkl, hke]; rfl
      have HSTEP := Lib.hid hst
      clear hs hswf hA' hst
      go_wp2_with fail
      refine CN.out.mono ?_
      rintro e w2 ⟨rfl, hb2⟩
      have HB2 := Lib.hid (HB.out.trans (hb2.mono hbz))
      clear hb2
      by_cases hd : s.check = 0
      · have H0 := Lib.hid (show badL (ts.drop k) = badL (ts.drop (k + 1)) from by rw [HSTEP.out, decide_eq_false (fun h => h hd)]; rfl)
        rw [decide_eq_true hd]
        clear hd
        go_wp2
        go_roundw
        case rel => exact ⟨k + 1, by omega, by go_num, HBD.out.trans H0.out, HB2.out⟩
        case measure => simp [intOf]; omega
      · have H0 := Lib.hid (show badL ts = true from by rw [HBD.out, HSTEP.out, decide_eq_true (show s.check ≠ 0 from hd)]; rfl)
        rw [decide_eq_false hd]
        clear hd
        go_wp2
        go_ret
        exact ⟨by rw [H0.out]; rfl, HB2.out⟩
    · obtain rfl : k = ts.length := by omega
      have H0 := Lib.hid (show badL ts = false from by rw [HBD.out, List.drop_of_length_le (Nat.le_refl _)]; rfl)
      go_wp2
      go_ret
      exact ⟨by rw [H0.out]; rfl, HB.out⟩

end Go.Proofs.YtbdabdjpgmnejaaGreat

/- Contracts of the document's Put of clauses. -/
namespace Go.Proofs.YtbdabdjpgmnejaaGreat
set_option linter.unusedVariables false
set_option linter.unusedSimpArgs false
open Go.RowKit

/-- All blocks but the row's own. -/
def okD (v : Value) (W : World) (b : Nat) : Prop := b < W.heap.size ∧ v.ownBlock ≠ some b
/-- A new literal is appended to a row of one's own. -/
theorem ol_step {n₁ g cap k : Nat} {wr uf w8 : World} {v : Value} {O : List LV} {z : LV} {ob : Obj} (hk : O.length = k) (hO : OL (okD v wr) n₁ v O wr) (hB : Below wr.heap.size wr uf) (hn : n₁ ≤ wr.heap.size) (hz : IsLvp (fun b => b < uf.heap.size ∧ v.ownBlock ≠ some b) uf z)
    (hown : w8.ownsRow n₁ 36 5 (.slice (some ⟨g, 0, none⟩) (k + 1) cap) (k + 1) (lcells O ++ z.cells)) (hgrow : (uf.alloc ob).grownBy w8 v.ownBlock) (hat : v.ownBlock = some g ∨ g = uf.heap.size + 1) :
    OL (okD (.slice (some ⟨g, 0, none⟩) (k + 1) cap) w8) n₁ (.slice (some ⟨g, 0, none⟩) (k + 1) cap) (O ++ [z]) w8 ∧ Below n₁ wr w8 := by
  have hsz : (uf.alloc ob).heap.size = uf.heap.size + 1 := by simp
  have hz8 := hgrow.size
  have hbs := hB.size
  have hbk : ∀ b, b < uf.heap.size → v.ownBlock ≠ some b → w8.heap[b]? = uf.heap[b]? := fun b h1 h2 =>
    (hgrow.block b (by omega) (fun e => h2 e.symm)).trans (Below.heap_alloc _ _ _ h1)
  have hok : ∀ b, b < uf.heap.size → v.ownBlock ≠ some b → okD (.slice (some ⟨g, 0, none⟩) (k + 1) cap) w8 b := fun b h1 h2 => by
    refine ⟨by omega, fun e => ?_⟩
    have e' : g = b := by simpa [Value.ownBlock] using e
    subst e'
    rcases hat with hat | hat
    · exact h2 hat
    · omega
  refine ⟨⟨?_, fun y hy => ?_⟩, ?_⟩
  · rw [lcells_append, List.length_append, hk]
    simpa [lcells] using hown
  · rcases List.mem_append.1 hy with hy | hy
    · exact (hO.2 y hy).keep (fun b hb => (hbk b (by have := hb.1; omega) hb.2).trans (hB.block b hb.1)) (fun b hb => hok b (by have := hb.1; omega) hb.2)
    · simp at hy; subst hy
      exact hz.keep (fun b hb => hbk b hb.1 hb.2) (fun b hb => hok b hb.1 hb.2)
  · have h1 : Below n₁ wr (uf.alloc ob) := (hB.mono hn).alloc (by omega) _
    exact h1.trans ((Below.refl n₁ _).grown hgrow (by omega) (fun q hq => (hO.block hq).1))
def PuI (s : Sb) (P : List LV) (w : World) (ov i : Value) (wr : World) : Prop := ∃ (k : Nat) (O : List LV), k ≤ P.length ∧ i = .int .i64 k ∧ O.length = k ∧ t3s O = (t3s (P.take k)).map (Lt3.sub (ofS s)) ∧ OL (okD ov wr) w.heap.size ov O wr ∧ Below w.heap.size w wr
theorem put_snoc {s : Sb} {P O : List LV} {k : Nat} {x z : LV} (h : P[k]? = some x) (ho : t3s O = (t3s (P.take k)).map (Lt3.sub (ofS s))) (hz : z.t3 = x.t3.sub (ofS s)) : t3s (O ++ [z]) = (t3s (P.take (k + 1))).map (Lt3.sub (ofS s)) := by
  rw [List.take_add_one, h]
  simp only [t3s, List.map_append, Option.toList, List.map_cons, List.map_nil] at *
  rw [ho, hz]

set_option maxRecDepth 100000 in
set_option maxHeartbeats 8000000 in
theorem put10_any (s : Sb) (P : List LV) (hl : P.length ≤ 1000000) (hsz : ∀ x ∈ P, x.sz) (n₀ : Nat) (as_ : Option Addr) (cs : Nat) (a : Option Addr) (c : Nat) (w : World) (hn : n₀ ≤ w.heap.size) (hS : IsBs n₀ w s as_ cs) (hP : IsCl n₀ w P a c) :
    Calls Tryz.prog 64 #[.slice as_ s.length cs, .slice a P.length c] w (ClPost ((t3s P).map (Lt3.sub (ofS s))) w) := by
  have hlc : P.length ≤ c ∧ c ≤ maxLen := ⟨hP.1, hP.2.1⟩
  unfold maxLen at hlc
  obtain ⟨hl1, hl2⟩ := hlc
  have HP := Lib.hid (hP.mono hn)
  have HS := Lib.hid (hS.mono hn)
  have HSZ := Lib.hid hsz
  clear hP hS hsz
  obtain ⟨i0, hi, hz0, hz1, hz2⟩ := info_parts infoLit
  go_enter Tryz.func64, Tryz.ntmps64
  go_wp2
  go_loopw [5, 6] (fun ov i wr => PuI s P w ov i wr) (fun _ i _ => P.length - (intOf i).toNat)
  case atStart => exact ⟨0, [], Nat.zero_le _, rfl, rfl, rfl, OL.nil _ _ _, Below.refl _ _⟩
  case round =>
    obtain ⟨k, O, hk, rfl, hol, hot, hO, hB⟩ := hrel
    have HO := Lib.hid hO
    have HB := Lib.hid hB
    have hbz := hB.size
    have HOT := Lib.hid hot
    have HOL := Lib.hid hol
    clear hO hB hot
    by_cases hlt : k < P.length
    · obtain ⟨b, o, x, rfl, hb, hx, ⟨a0, a1, a2, a3, a4⟩, hxl⟩ := (HP.out.below HB.out).elem (i := k) hlt
      have hxs := HSZ.out x (List.mem_of_getElem? hx)
      have HX := Lib.hid (And.intro hx hxl)
      have hk0 : (0 : Int) ≤ (k : Int) := Int.natCast_nonneg _
      have hk1 : (k : Int) < (P.length : Int) := by omega
      have hbw : b < wr.heap.size := by omega
      have CL := Lib.hid (fun (W : World) (hW : Below wr.heap.size wr W) => show Calls Tryz.prog 109 #[.slice as_ s.length cs, tm x.l.head x.pa x.l.args.length x.ca] W (fun e u => ∃ a2 c2, e = .returned (tm (x.l.sub (ofS s)).head a2 (x.l.sub (ofS s)).args.length c2) ∧ (Lit.int .i64 (x.l.sub (ofS s)).head).wf = true ∧ IsArgsp (fun b => b < w.heap.size ∨ W.heap.size ≤ b ∧ b < u.heap.size) u (x.l.sub (ofS s)).args a2 c2 ∧ Below W.heap.size W u) from refSub_any s x.l.size x.l (Nat.le_refl _) hxs.1 w.heap.size x.pa x.ca as_ cs W (Nat.le_trans hbz hW.size) HX.out.2.lw (HX.out.2.below (hW.mono hbz)).la (HS.out.below (HB.out.trans (hW.mono hbz))))
      have CR := Lib.hid (fun (W : World) (hW : Below wr.heap.size wr W) => show Calls Tryz.prog 109 #[.slice as_ s.length cs, tm x.r.head x.pb x.r.args.length x.cb] W (fun e u => ∃ a2 c2, e = .returned (tm (x.r.sub (ofS s)).head a2 (x.r.sub (ofS s)).args.length c2) ∧ (Lit.int .i64 (x.r.sub (ofS s)).head).wf = true ∧ IsArgsp (fun b => b < w.heap.size ∨ W.heap.size ≤ b ∧ b < u.heap.size) u (x.r.sub (ofS s)).args a2 c2 ∧ Below W.heap.size W u) from refSub_any s x.r.size x.r (Nat.le_refl _) hxs.2 w.heap.size x.pb x.cb as_ cs W (Nat.le_trans hbz hW.size) HX.out.2.rw (HX.out.2.below (hW.mono hbz)).ra (HS.out.below (HB.out.trans (hW.mono hbz))))
      have KP := Lib.hid (show ∀ W, Below wr.heap.size wr W → W.cell? ⟨b, o + k * 5, none⟩ = some (.bool x.n) ∧ W.cell? ⟨b, o + k * 5 + 1, none⟩ = some (.int .i64 x.l.head) ∧ W.cell? ⟨b, o + k * 5 + 2, none⟩ = some (.slice x.pa x.l.args.length x.ca) ∧ W.cell? ⟨b, o + k * 5 + 3, none⟩ = some (.int .i64 x.r.head) ∧ W.cell? ⟨b, o + k * 5 + 4, none⟩ = some (.slice x.pb x.r.args.length x.cb) from fun W hW =>
        ⟨(hW.cell (p := ⟨b, _, none⟩) hbw).trans a0, (hW.cell (p := ⟨b, _, none⟩) hbw).trans a1, (hW.cell (p := ⟨b, _, none⟩) hbw).trans a2, (hW.cell (p := ⟨b, _, none⟩) hbw).trans a3, (hW.cell (p := ⟨b, _, none⟩) hbw).trans a4⟩)
      have HT := Lib.hid (show ∀ z : LV, z.n = x.n → z.l = x.l.sub (ofS s) → z.r = x.r.sub (ofS s) → z.t3 = x.t3.sub (ofS s) from fun z h1 h2 h3 => by simp only [LV.t3, Lt3.sub, h1, h2, h3])
      generalize x.l.sub (ofS s) = y1 at CL HT
      generalize x.r.sub (ofS s) = y2 at CR HT
      have hown := HO.out.1
      rw [hol] at hown
      have HOWN := Lib.hid hown
      have hkm : k + 1 ≤ maxLen := by unfold maxLen; omega
      have hD4 : Below wr.heap.size wr wr.drew := (Below.refl _ _).drew
      clear hx hxl hown hol
      go_wp2
      go_region_law (first
        | (refine step_append_lies _ (by rfl) _ _ _ (by rfl) w.heap.size 36 i0 _ 5 72 Tryz.underlying23 hi hz0 hz1 hz2 rfl (by omega) u5 k (lcells O) (by rfl) ((ownsRow_later HOWN.out hBf).alloc _) ⟨uf.heap.size, 0, none⟩ 1 1 [.bool x.n, .int .i64 y1.head, .slice aL y1.args.length cL, .int .i64 y2.head, .slice aR y2.args.length cR] (by rfl) (by rfl) (World.news_of_block (cs := #[.bool x.n, .int .i64 y1.head, .slice aL y1.args.length cL, .int .i64 y2.head, .slice aR y2.args.length cR]) (t := 36) (fr := (0, 0)) (heap_alloc_new uf _)) (by simp [Value.oneCell']) (by omega) hkm (by omega) (by simp; omega) (uf.heap.size + 1) (by simp) ?_; intro g cap w8 hown8 hgrow8 hat8 hlt8)
        | (go_simp; go_at_call 109; (with_reducible refine (CL.out _ hD4).mono ?_); rintro e u1 ⟨aL, cL, rfl, hwL, hIL, hb1⟩; have hB1 : Below wr.heap.size wr u1 := ⟨hb1.os, hb1.tape, hb1.output, hb1.size, hb1.block⟩; obtain ⟨a0, a1, a2, a3, a4⟩ := KP.out u1 hB1; have hzL := hB1.size)
        | (go_simp; go_at_call 109; (with_reducible refine (CR.out _ hB1).mono ?_); rintro e uf ⟨aR, cR, rfl, hwR, hIR, hb2⟩; have hBf : Below wr.heap.size wr uf := hB1.trans (hb2.mono hB1.size); have hzf := hBf.size; obtain ⟨a0, a1, a2, a3, a4⟩ := KP.out uf hBf; have hIL' := hIL.keep (ok' := fun b => b < w.heap.size ∨ wr.heap.size ≤ b ∧ b < uf.heap.size) (fun b hb => hb2.block b (by have := hzL; rcases hb with h | h; omega; exact h.2)) (fun b hb => by have := hb2.size; rcases hb with h | h; exact .inl h; exact .inr ⟨h.1, by omega⟩); have hIR' := hIR.keep (ok' := fun b => b < w.heap.size ∨ wr.heap.size ≤ b ∧ b < uf.heap.size) (fun _ _ => rfl) (fun b hb => by rcases hb with h | h; exact .inl h; exact .inr ⟨Nat.le_trans hzL h.1, h.2⟩))
        | (go_simp; go_at_call 109; (with_reducible refine (CR.out _ hD4).mono ?_); rintro e v1 ⟨aR, cR, rfl, hwR, hIR, hb1⟩; have hB1' : Below wr.heap.size wr v1 := ⟨hb1.os, hb1.tape, hb1.output, hb1.size, hb1.block⟩; obtain ⟨a0, a1, a2, a3, a4⟩ := KP.out v1 hB1'; have hzR := hB1'.size)
        | (go_simp; go_at_call 109; (with_reducible refine (CL.out _ hB1').mono ?_); rintro e uf ⟨aL, cL, rfl, hwL, hIL, hb2⟩; have hBf : Below wr.heap.size wr uf := hB1'.trans (hb2.mono hB1'.size); have hzf := hBf.size; obtain ⟨a0, a1, a2, a3, a4⟩ := KP.out uf hBf; have hIR' := hIR.keep (ok' := fun b => b < w.heap.size ∨ wr.heap.size ≤ b ∧ b < uf.heap.size) (fun b hb => hb2.block b (by have := hzR; rcases hb with h | h; omega; exact h.2)) (fun b hb => by have := hb2.size; rcases hb with h | h; exact .inl h; exact .inr ⟨h.1, by omega⟩); have hIL' := hIL.keep (ok' := fun b => b < w.heap.size ∨ wr.heap.size ≤ b ∧ b < uf.heap.size) (fun _ _ => rfl) (fun b hb => by rcases hb with h | h; exact .inl h; exact .inr ⟨Nat.le_trans hzR h.1, h.2⟩)))
      all_goals
        have hbo : ∀ b, (b < w.heap.size ∨ wr.heap.size ≤ b ∧ b < uf.heap.size) → b < uf.heap.size ∧ u5.ownBlock ≠ some b := fun b hb => by
          refine ⟨by omega, fun e => ?_⟩
          have := HO.out.block e
          omega
        have hst := ol_step (z := ⟨x.n, y1, y2, aL, cL, aR, cR⟩) HOL.out HO.out hBf hbz ⟨hwL, hwR, hIL'.keep (fun _ _ => rfl) hbo, hIR'.keep (fun _ _ => rfl) hbo⟩ hown8 hgrow8 hat8
        have HST := Lib.hid hst
        have HTZ := Lib.hid (HT.out ⟨x.n, y1, y2, aL, cL, aR, cR⟩ rfl rfl rfl)
        clear hst hown8 hgrow8 hat8 hlt8 hIL' hIR' hbo
        go_wp2
        go_roundw
        case rel => exact ⟨k + 1, O ++ [⟨x.n, y1, y2, aL, cL, aR, cR⟩], by omega, by go_num, by simp [HOL.out], put_snoc HX.out.1 HOT.out HTZ.out, HST.out.1, HB.out.trans HST.out.2⟩
        case measure => simp [intOf]; omega
    · obtain rfl : k = P.length := by omega
      obtain ⟨p, c', rfl, hR⟩ := HO.out.args (fun b hb => hb.1)
      have HR := Lib.hid hR
      have HT := Lib.hid (show t3s O = (t3s P).map (Lt3.sub (ofS s)) from by rw [HOT.out, List.take_length])
      clear hR
      go_wp2
      go_ret
      exact ⟨O, p, c', HT.out, rfl, HR.out, HB.out⟩

end Go.Proofs.YtbdabdjpgmnejaaGreat

/- Contract of the document's Norm of clauses. -/
namespace Go.Proofs.YtbdabdjpgmnejaaGreat
set_option linter.unusedVariables false
set_option linter.unusedSimpArgs false
open Go.RowKit

/-! ### Norm -/
theorem good_low {t : T} (hb : bad (T.subs 1 t) = false) {v : Int} (hv : v ∈ t.rv) : 0 ≤ v ∧ v ≤ 255 := by
  rw [T.rv_eq, mem_varsOf] at hv
  obtain ⟨x, hx, hn, rfl⟩ := hv
  unfold bad at hb
  rw [List.any_eq_false] at hb
  have := hb x hx
  simp only [Bool.not_eq_true, Bool.not_eq_false'] at this
  unfold okB at this
  rw [if_pos hn, Bool.and_eq_true, decide_eq_true_eq, decide_eq_true_eq] at this
  omega
theorem mem_rvs {v : Int} : ∀ {ts : List T} {acc : List Int}, v ∈ T.rvs acc ts ↔ v ∈ acc ∨ ∃ t ∈ ts, v ∈ t.rv
  | [], acc => by simp [T.rvs]
  | t :: ts, acc => by
    rw [T.rvs, mem_rvs, mem_dd]
    simp only [List.mem_cons, exists_eq_or_imp]
    constructor
    · rintro ((h | h) | h)
      · exact .inl h
      · exact .inr (.inl h)
      · exact .inr (.inr h)
    · rintro (h | h | h)
      · exact .inl (.inl h)
      · exact .inl (.inr h)
      · exact .inr h
theorem rvs_low {ts : List T} (hb : badL ts = false) {v : Int} (hv : v ∈ T.rvs [] ts) : 0 ≤ v ∧ v ≤ 255 := by
  rcases mem_rvs.1 hv with h | ⟨t, ht, h⟩
  · cases h
  · unfold badL at hb
    rw [List.any_eq_false] at hb
    have := hb t ht
    simp only [decide_eq_true_eq, ne_eq, Decidable.not_not] at this
    exact good_low (check_ok this).2.2 h
/-- The substitution that numbers a clause's variables. -/
def nuC (c : List Lt3) : Sb := numS (T.rvs [] (sidesC c))
def nmL (c : List Lt3) : List Lt3 := if badL (sidesC c) then [] else c.map (Lt3.sub (ofS (nuC c)))
def nmE (c : List Lt3) : Int := if badL (sidesC c) then 1 else 0
def ClEPost (D : List Lt3) (k : Int) (w : World) (e : Ending) (w' : World) : Prop := ∃ (P : List LV) (p : Option Addr) (c : Nat), t3s P = D ∧ e = .returned (.tuple #[.slice p P.length c, .int .i64 k]) ∧ IsCl w'.heap.size w' P p c ∧ Below w.heap.size w w'
theorem sides_sz {P : List LV} (h : T.sizes (sidesC (t3s P)) ≤ 100000) : (∀ x ∈ P, x.l.size ≤ 100000 ∧ x.r.size ≤ 100000) ∧ ∀ t ∈ sidesC (t3s P), t.size ≤ 100000 := by
  have h2 : ∀ t ∈ sidesC (t3s P), t.size ≤ 100000 := fun t ht => Nat.le_trans (mem_sizes ht) h
  refine ⟨fun x hx => ?_, h2⟩
  have : ∀ t, t = x.l ∨ t = x.r → t ∈ sidesC (t3s P) := fun t ht => by
    unfold sidesC
    rw [List.mem_flatten]
    refine ⟨[x.l, x.r], List.mem_map.2 ⟨x.t3, List.mem_map.2 ⟨x, hx, rfl⟩, rfl⟩, by simpa using ht⟩
  exact ⟨h2 _ (this _ (.inl rfl)), h2 _ (this _ (.inr rfl))⟩

set_option maxRecDepth 100000 in
set_option maxHeartbeats 4000000 in
theorem norm10_any (P : List LV) (hl : P.length ≤ 1000000) (hs : T.sizes (sidesC (t3s P)) ≤ 100000) (n₀ : Nat) (a : Option Addr) (c : Nat) (w : World) (hn : n₀ ≤ w.heap.size) (hP : IsCl n₀ w P a c) :
    Calls Tryz.prog 33 #[.slice a P.length c] w (ClEPost (nmL (t3s P)) (nmE (t3s P)) w) := by
  have hss := sides_sz hs
  have HSS := Lib.hid hss
  have HP := Lib.hid (hP.mono hn)
  clear hP hss
  go_enter Tryz.func33, Tryz.ntmps33
  go_wp2_with fail
  refine (terms10_any P hl w.heap.size a c w (Nat.le_refl _) HP.out).mono ?_
  rintro e w2 ⟨p2, c2, rfl, hA2, hb2⟩
  have HA2 := Lib.hid hA2
  have HB2 := Lib.hid hb2
  have hz2 := hb2.size
  clear hA2 hb2
  go_wp2_with fail
  refine (refAllR_any (sidesC (t3s P)) (fun t ht => by have := HSS.out.2 t ht; omega) w2.heap.size p2 c2 w2 (Nat.le_refl _) HA2.out).mono ?_
  rintro e w3 ⟨rfl, hb3⟩
  have HB3 := Lib.hid (HB2.out.trans (hb3.mono hz2))
  clear hb3
  cases hbad : badL (sidesC (t3s P)) with
  | true =>
    have HE := Lib.hid (show nmL (t3s P) = [] ∧ nmE (t3s P) = 1 from ⟨by unfold nmL; rw [hbad]; rfl, by unfold nmE; rw [hbad]; rfl⟩)
    clear hbad
    go_wp2
    refine bodyPost_ret (v := .tuple #[.slice none 0 0, .int .i64 1]) (by simp [results, Tryz.results33, go_sem]) rfl ?_
    exact ⟨[], none, 0, HE.out.1.symm, by rw [HE.out.2]; rfl, IsCl.nil _ _ _ (by simp [maxLen]), HB3.out⟩
  | false =>
    have HE := Lib.hid (show nmL (t3s P) = (t3s P).map (Lt3.sub (ofS (nuC (t3s P)))) ∧ nmE (t3s P) = 0 from ⟨by unfold nmL; rw [hbad]; rfl, by unfold nmE; rw [hbad]; rfl⟩)
    have HLOW := Lib.hid (fun v hv => rvs_low hbad (v := v) hv)
    clear hbad
    go_wp2_with fail
    refine (vars10_any P hl hs w.heap.size a c w3 HB3.out.size (HP.out.below HB3.out)).mono ?_
    rintro e w4 ⟨p4, c4, rfl, hV, _, hb4⟩
    have HV := Lib.hid hV
    have HB4 := Lib.hid (HB3.out.trans (hb4.mono HB3.out.size))
    clear hV hb4
    go_wp2_with fail
    refine (refNumber_any (T.rvs [] (sidesC (t3s P))) (by have h := T.rv_length (.node 0 (sidesC (t3s P))); simp only [T.rv, T.size] at h; rw [if_neg (by decide)] at h; omega) HLOW.out w4.heap.size p4 c4 w4 (Nat.le_refl _) HV.out).mono ?_
    rintro e w5 ⟨p5, c5, rfl, hS, hb5⟩
    have HS := Lib.hid hS
    have HB5 := Lib.hid (HB4.out.trans (hb5.mono HB4.out.size))
    clear hS hb5
    go_wp2_with fail
    refine (put10_any (nuC (t3s P)) P hl (fun x hx => ⟨by have := (HSS.out.1 x hx).1; omega, by have := (HSS.out.1 x hx).2; omega⟩) w5.heap.size p5 c5 a c w5 (Nat.le_refl _) HS.out ((HP.out.below HB5.out).mono HB5.out.size)).mono ?_
    rintro e w6 ⟨Q, p6, c6, hQ, rfl, hQc, hb6⟩
    have HQ := Lib.hid hQ
    have HQC := Lib.hid hQc
    have HB6 := Lib.hid (HB5.out.trans (hb6.mono HB5.out.size))
    clear hQ hQc hb6
    go_wp2
    refine bodyPost_ret (v := .tuple #[.slice p6 Q.length c6, .int .i64 0]) (by simp [results, Tryz.results33, go_sem]) rfl ?_
    exact ⟨Q, p6, c6, by rw [HE.out.1]; exact HQ.out, by rw [HE.out.2], HQC.out, HB6.out⟩

end Go.Proofs.YtbdabdjpgmnejaaGreat

/- Answers of a term and an error; plain. -/
namespace Go.Proofs.YtbdabdjpgmnejaaGreat
set_option linter.unusedVariables false
set_option linter.unusedSimpArgs false
open Go.RowKit

/-- A term and an error, as answers. -/
def TEPost (x : T) (k : Int) (w : World) (e : Ending) (w' : World) : Prop :=
  ∃ a c, e = .returned (.tuple #[tm x.head a x.args.length c, .int .i64 k]) ∧ (Lit.int .i64 x.head).wf = true ∧ IsArgs w'.heap.size w' x.args a c ∧ Below w.heap.size w w'
/-- .. with a condition on the blocks. -/
def TEPostp (ok : Nat → Prop) (x : T) (k : Int) (w : World) (e : Ending) (w' : World) : Prop :=
  ∃ a c, e = .returned (.tuple #[tm x.head a x.args.length c, .int .i64 k]) ∧ (Lit.int .i64 x.head).wf = true ∧ IsArgsp ok w' x.args a c ∧ Below w.heap.size w w'
/-- .. in blocks that the caller had before n₀, or that the call made. -/
def TEPostF (n₀ : Nat) (x : T) (k : Int) (w : World) (e : Ending) (w' : World) : Prop :=
  ∃ a c, e = .returned (.tuple #[tm x.head a x.args.length c, .int .i64 k]) ∧ (Lit.int .i64 x.head).wf = true ∧ IsArgsp (fun b => (b < n₀ ∨ w.heap.size ≤ b) ∧ b < w'.heap.size) w' x.args a c ∧ Below w.heap.size w w'
theorem TEPostF.te {n₀ : Nat} {x : T} {k : Int} {w w' : World} {e : Ending} (h : TEPostF n₀ x k w e w') : TEPost x k w e w' := by
  obtain ⟨a, c, h1, h2, h3, h4⟩ := h
  exact ⟨a, c, h1, h2, h3.toArgs (fun _ h => h.2), h4⟩
theorem isArgsp_z (ok : Nat → Prop) (w : World) : IsArgsp ok w (T.node 0 []).args none 0 := ⟨by simp [T.args], by simp [maxLen], .inl rfl⟩
def endT (x : T) : T := if x.check = 0 then x else Z0
theorem wf_z0 : (Lit.int .i64 Z0.head).wf = true := by decide
theorem isArgs_z (n : Nat) (w : World) : IsArgs n w Z0.args none 0 := ⟨by simp [Z0, T.args], by simp [maxLen], .inl rfl⟩
theorem TEPost.later {x : T} {k : Int} {w w1 w' : World} {e : Ending} (h : TEPost x k w1 e w') (hb : Below w.heap.size w w1) : TEPost x k w e w' := by
  obtain ⟨a, c, h1, h2, h3, h4⟩ := h
  exact ⟨a, c, h1, h2, h3, hb.trans (h4.mono hb.size)⟩


end Go.Proofs.YtbdabdjpgmnejaaGreat

/- Contract of the reference's end. -/
namespace Go.Proofs.YtbdabdjpgmnejaaGreat
set_option linter.unusedVariables false
set_option linter.unusedSimpArgs false
open Go.RowKit

set_option maxRecDepth 100000 in
set_option maxHeartbeats 1000000 in
theorem refEnd_any (x : T) (hx : x.size ≤ 1000000000000) (ok : Nat → Prop) (a : Option Addr) (c : Nat) (w : World) (hok : ∀ b, ok b → b < w.heap.size) (hwf : (Lit.int .i64 x.head).wf = true) (hA : IsArgsp ok w x.args a c) :
    Calls Tryz.prog 67 #[tm x.head a x.args.length c] w (TEPostp ok (endT x) x.check w) := by
  obtain ⟨w2, hw2⟩ : ∃ w2, (w.alloc (tmCells x.head a x.args.length c)).alloc (tmCells 0 none 0 0) = w2 := ⟨_, rfl⟩
  have hB2 : Below w.heap.size w w2 := by rw [← hw2]; exact ((Below.refl _ w).alloc (Nat.le_refl _) _).alloc (by simp) _
  have hs2 : w2.heap.size = w.heap.size + 2 := by rw [← hw2]; simp
  have L2 := Lib.hid (show ∀ W, Below w2.heap.size w2 W → W.cell? ⟨w.heap.size, 0, none⟩ = some (.int .i64 x.head) ∧ W.cell? ⟨w.heap.size, 1, none⟩ = some (.slice a x.args.length c) ∧ W.cell? ⟨w.heap.size + 1, 0, none⟩ = some (.int .i64 0) ∧ W.cell? ⟨w.heap.size + 1, 1, none⟩ = some (.slice none 0 0) ∧ W.frozen? ⟨w.heap.size + 1, 0, none⟩ = false ∧ W.frozen? ⟨w.heap.size + 1, 1, none⟩ = false from fun W hW =>
    ⟨(hW.cell (p := ⟨w.heap.size, 0, none⟩) (by simp; omega)).trans (by rw [← hw2]; simp [go_sem]), (hW.cell (p := ⟨w.heap.size, 1, none⟩) (by simp; omega)).trans (by rw [← hw2]; simp [go_sem]), (hW.cell (p := ⟨w.heap.size + 1, 0, none⟩) (by simp; omega)).trans (by rw [← hw2]; simp [go_sem]), (hW.cell (p := ⟨w.heap.size + 1, 1, none⟩) (by simp; omega)).trans (by rw [← hw2]; simp [go_sem]), (hW.frozen (p := ⟨w.heap.size + 1, 0, none⟩) (by simp; omega)).trans (by rw [← hw2]; simp [go_sem]), (hW.frozen (p := ⟨w.heap.size + 1, 1, none⟩) (by simp; omega)).trans (by rw [← hw2]; simp [go_sem])⟩)
  have CC := Lib.hid (refCheck_any x hx w.heap.size a c w2 (by omega) ((hA.toArgs hok).below hB2))
  have HW := Lib.hid hwf
  have HA := Lib.hid hA
  have HB2 := Lib.hid hB2
  clear hwf hA hB2 hs2
  obtain ⟨c0, c1, _, _, _, _⟩ := L2.out w2 (Below.refl _ _)
  go_enter Tryz.func67, Tryz.ntmps67
  go_wp2_with fail
  refine CC.out.mono ?_
  rintro e w3 ⟨rfl, hb3⟩
  clear c0 c1 hw2
  obtain ⟨c0, c1, r0, r1, rf0, rf1⟩ := L2.out w3 hb3
  have HB3 := Lib.hid (HB2.out.trans (hb3.mono HB2.out.size))
  have hz3 : w.heap.size ≤ w3.heap.size := HB3.out.size
  clear hb3
  have HE := Lib.hid (show endT x = if x.check = 0 then x else Z0 from rfl)
  by_cases q : x.check = 0
  · rw [q]
    have he : endT x = x := by unfold endT; rw [if_pos q]
    go_wp2
    refine bodyPost_ret (v := .tuple #[tm x.head a x.args.length c, .int .i64 0]) (by simp [results, Tryz.results67, go_sem, r0, r1]) rfl ?_
    first | rw [he, q] | rw [he] | rw [q] | skip
    exact ⟨a, c, rfl, HW.out, HA.out.keep (fun b hb => ((Below.heap_setCell _ _ _ _ (by have := hok b hb; show b ≠ w.heap.size + 1; omega)).trans (Below.heap_setCell _ _ _ _ (by have := hok b hb; show b ≠ w.heap.size + 1; omega))).trans (HB3.out.block b (hok b hb))) (fun b hb => hb), (HB3.out.setCell (p := ⟨w.heap.size + 1, 0, none⟩) (by simp) _).setCell (p := ⟨w.heap.size + 1, 1, none⟩) (by simp) _⟩
  · have he : endT x = Z0 := by unfold endT; rw [if_neg q]
    generalize hk : x.check = k at q he ⊢
    have HK := Lib.hid hk
    clear hk
    have hne : (k == 0) = false := by simpa using q
    go_wp2
    refine bodyPost_ret (v := .tuple #[tm 0 none 0 0, .int .i64 k]) (by simp [results, Tryz.results67, go_sem, r0, r1]) rfl ?_
    first | rw [he, HK.out] | rw [HK.out] | rw [he] | skip
    exact ⟨none, 0, rfl, wf_z0, isArgsp_z _ _, (HB3.out.setCell (p := ⟨w.heap.size + 1, 0, none⟩) (by simp) _).setCell (p := ⟨w.heap.size + 1, 1, none⟩) (by simp) _⟩


end Go.Proofs.YtbdabdjpgmnejaaGreat

/- Hr0: split off Tb0. -/
namespace Go.Proofs.YtbdabdjpgmnejaaGreat
set_option linter.unusedVariables false
set_option linter.unusedSimpArgs false
open Go.RowKit Go.Maps

/-- Elements of maps, read as they are. -/
def heldR (v : Value) : Option (DataW Value × List MemPlace) := some (.held v, [])
theorem keyInt : Keyed Tryz.prog 3 := int_keyed Tryz.underlying3
/-- What a replacement is: a term in new memory. -/
def RepPost (x : T) (w : World) (e : Ending) (w' : World) : Prop :=
  ∃ a c, e = .returned (tm x.head a x.args.length c) ∧ (Lit.int .i64 x.head).wf = true ∧ IsArgsp (fun b => w.heap.size ≤ b ∧ b < w'.heap.size) w' x.args a c ∧ Below w.heap.size w w'

end Go.Proofs.YtbdabdjpgmnejaaGreat
