/- The walk of PlaceDoes. -/
import Derived.Test.YtdigccbffphilaaRPut2
import Derived.Test.YtdigccbffphilaaRAll2
import Derived.Test.YtdigccbffphilaaPl2
import Derived.Test.YtdigccbffphilaaLat
import Derived.Deep.RegionHeld3
namespace Go.Proofs.Ytdigccbffphilaa
set_option linter.unusedVariables false
set_option linter.unusedSimpArgs false
open Go.RowKit

def putT (t : T) (p : List Int) (u : T) : T := match t.at p with | some _ => t.put u p | none => Z0
def AtG (x : T) (b : Bool) (w : World) (e : Ending) (w' : World) : Prop := ∃ a c, e = .returned (.tuple #[tm x.head a x.args.length c, .bool b]) ∧ IsArgs w'.heap.size w' x.args a c ∧ Below w.heap.size w w'
def PutG (x : T) (k : Int) (w : World) (e : Ending) (w' : World) : Prop := ∃ a c, e = .returned (.tuple #[tm x.head a x.args.length c, .int .i64 k]) ∧ IsArgs w'.heap.size w' x.args a c ∧ Below w.heap.size w w'
def LsG (L : List (List Int)) (w : World) (e : Ending) (w' : World) : Prop := ∃ a c, e = .returned (.slice a L.length c) ∧ IsLs w'.heap.size w' L a c ∧ Below w.heap.size w w'
theorem isArgs_z0 (n : Nat) (w : World) : IsArgs n w Z0.args none 0 := ⟨by simp [Z0, T.args], by simp [maxLen], .inl rfl⟩
theorem atG_of {n₀ : Nat} {t : T} {p : List Int} {w w' : World} {e : Ending} (hn : n₀ ≤ w.heap.size) (h : AtPost n₀ t p w e w') : AtG ((t.at p).getD Z0) (t.at p).isSome w e w' := by
  rcases h with ⟨s, a, c, h1, h2, h3, h4, h5⟩ | ⟨h1, h2, h3⟩
  · rw [h1]; exact ⟨a, c, h2, h4.mono (Nat.le_trans hn h5.size), h5⟩
  · rw [h1]; exact ⟨none, 0, h2, isArgs_z0 _ _, h3⟩
theorem putG_of {t : T} {p : List Int} {u : T} {w w' : World} {e : Ending} (h : PutPost t p u w e w') : PutG (putT t p u) (if (t.at p).isSome then 0 else 6) w e w' := by
  rcases h with ⟨s, a, c, h1, h2, h3, h4, h5⟩ | ⟨h1, h2, h3⟩
  · unfold putT; rw [h1]; exact ⟨a, c, h2, h4, h5⟩
  · unfold putT; rw [h1]; exact ⟨none, 0, h2, isArgs_z0 _ _, h3⟩
theorem putT_size (t : T) (p : List Int) (u : T) : (putT t p u).size ≤ t.size + u.size := by
  unfold putT
  split
  · exact T.put_size u p t
  · simp [Z0, T.size, T.sizes]; have := t.size_pos; omega
theorem atT_size (t : T) (p : List Int) : ((t.at p).getD Z0).size ≤ t.size := by
  cases h : t.at p with
  | none => simp [Z0, T.size, T.sizes]; have := t.size_pos; omega
  | some s => exact T.at_size h

set_option maxRecDepth 100000 in
set_option maxHeartbeats 4000000 in
theorem placeDoes_walk (t : T) (p : List Int) (u : T) (a : Option Addr) (c : Nat) (ap : Option Addr) (cp : Nat) (au : Option Addr) (cu : Nat) (w : World) (htw : (Lit.int .i64 t.head).wf = true) (huw : (Lit.int .i64 u.head).wf = true) (hA : IsArgs w.heap.size w t.args a c) (hP : IsIs w.heap.size w p ap cp) (hU : IsArgs w.heap.size w u.args au cu) :
    Calls Try.prog 3 #[tm t.head a t.args.length c, .slice ap p.length cp, tm u.head au u.args.length cu] w fun e w' => e = .returned (.bool true) ∧ Below w.heap.size w w' := by
  have HTW := Lib.hid htw
  have HUW := Lib.hid huw
  have D := Lib.hid (((((Later.below (Below.refl _ w)).and (later_is hP)).and (later_args hA)).and (later_args hU)).push (Below.refl _ _) t.head a t.args.length c |>.push (Below.refl _ _) u.head au u.args.length cu)
  have hp1 : p.length ≤ cp ∧ cp ≤ maxLen := ⟨hP.1, hP.2.1⟩
  have HPL := Lib.hid hp1
  clear htw huw hA hP hU hp1
  go_enter Try.func3, Try.ntmps3
  go_wp2_with fail
  rw [heap_alloc_size] at D
  generalize (w.alloc (tmCells t.head a t.args.length c)).alloc (tmCells u.head au u.args.length cu) = wB at D ⊢
  generalize w.heap.size + 1 = bu at D ⊢
  generalize hbt : w.heap.size = bt at D ⊢
  have HBT := Lib.hid hbt
  clear hbt
  refine (few2_any t p wB.heap.size a c ap cp wB (Nat.le_refl _) D.out.now.2.2.2.1 HPL.out.1 HPL.out.2).mono ?_
  rintro e w1 ⟨rfl, hb⟩
  have D1 := Lib.hid (D.out.mv hb)
  clear hb D
  have hfew : (decide (t.size ≤ 500) && decide (p.length ≤ 100)) = true → t.size ≤ 500 := by simp; intros; assumption
  generalize (decide (t.size ≤ 500) && decide (p.length ≤ 100)) = f1 at hfew ⊢
  cases f1
  case false =>
    have HQ := Lib.hid D1.out.now.2.2.2.2.2
    clear D1 hfew
    go_wp2
    go_ret
    exact ⟨rfl, by rw [HBT.out]; exact HQ.out⟩
  have hts := hfew rfl
  clear hfew
  obtain ⟨⟨u0, u1⟩, _⟩ := D1.out.now
  go_wp2_with fail
  clear u0 u1
  refine (few_any u w1.heap.size au cu w1 (Nat.le_refl _) D1.out.now.2.2.1).mono ?_
  rintro e w2 ⟨rfl, hb⟩
  have D2 := Lib.hid (D1.out.mv hb)
  clear hb D1
  have hfew : decide (u.size ≤ 500) = true → u.size ≤ 500 := by simp
  generalize decide (u.size ≤ 500) = f2 at hfew ⊢
  cases f2
  case false =>
    have HQ := Lib.hid D2.out.now.2.2.2.2.2
    clear D2 hfew
    go_wp2
    go_ret
    exact ⟨rfl, by rw [HBT.out]; exact HQ.out⟩
  have hus := hfew rfl
  clear hfew
  obtain ⟨_, ⟨t0, t1⟩, _⟩ := D2.out.now
  go_wp2_with fail
  clear t0 t1
  refine (refCopy_any t.size t (Nat.le_refl _) (by omega) w2.heap.size a c w2 (Nat.le_refl _) HTW.out D2.out.now.2.2.2.1).mono ?_
  rintro e w3 ⟨ak, ck, rfl, hk, hb⟩
  have D3 := Lib.hid (D2.out.pushT hb t ak ck (hk.toArgs (fun b h => h.2)))
  clear hb hk D2
  obtain ⟨_, _, _, ⟨t0, t1⟩, _⟩ := D3.out.now
  go_wp2_with fail
  clear t0 t1
  generalize w3.alloc (tmCells t.head ak t.args.length ck) = w4 at D3 ⊢
  generalize w3.heap.size = bk at D3 ⊢
  have hDt := D3.out.now.2.2.2.2.2.1
  have hDp := D3.out.now.2.2.2.2.2.2.1
  refine (at_any t p w4.heap.size a c ap cp w4 (Nat.le_refl _) HTW.out hDt hDp).mono ?_
  clear hDt hDp
  rintro e w5 h5
  obtain ⟨a1, c1, rfl, hx, hb⟩ := atG_of (Nat.le_refl _) h5
  have D4 := Lib.hid (D3.out.pushT hb _ a1 c1 hx)
  have hxs := atT_size t p
  clear hb hx h5 D3
  generalize hx : (t.at p).getD Z0 = x at D4 hxs ⊢
  generalize hok : (t.at p).isSome = ok at D4 ⊢
  have HX := Lib.hid hx
  have HOK := Lib.hid hok
  clear hx hok
  obtain ⟨_, _, _, _, _, ⟨t0, t1⟩, _⟩ := D4.out.now
  go_wp2_with fail
  clear t0 t1
  generalize w5.alloc (tmCells x.head a1 x.args.length c1) = w6 at D4 ⊢
  generalize w5.heap.size = b1 at D4 ⊢
  have hDt := D4.out.now.2.2.2.2.2.2.2.1
  have hDp := D4.out.now.2.2.2.2.2.2.2.2.1
  refine (refAt_any p t w6.heap.size a c ap cp w6 (Nat.le_refl _) HTW.out hDt hDp).mono ?_
  clear hDt hDp
  rintro e w7 h7
  obtain ⟨a2, c2, rfl, hx, hb⟩ := atG_of (Nat.le_refl _) h7
  rw [HX.out] at hx ⊢
  rw [HOK.out]
  have D5 := Lib.hid (D4.out.pushT hb _ a2 c2 hx)
  clear hb hx h7 D4
  obtain ⟨_, _, _, _, _, _, ⟨u0, u1⟩, ⟨t0, t1⟩, _⟩ := D5.out.now
  go_wp2_with fail
  clear t0 t1 u0 u1
  generalize w7.alloc (tmCells x.head a2 x.args.length c2) = w8 at D5 ⊢
  generalize w7.heap.size = b2 at D5 ⊢
  obtain ⟨_, _, _, _, _, _, _, _, hDu, hDt, hDp, _⟩ := D5.out.now
  refine (put_any t (by omega) p u w8.heap.size a c ap cp au cu w8 (Nat.le_refl _) HTW.out hDt hDp HUW.out hDu).mono ?_
  clear hDt hDp hDu
  rintro e w9 h9
  obtain ⟨a3, c3, rfl, hy, hb⟩ := putG_of h9
  have D6 := Lib.hid (D5.out.pushT hb _ a3 c3 hy)
  have hys := putT_size t p u
  clear hb hy h9 D5
  rw [HOK.out]
  generalize hy : putT t p u = y at D6 hys ⊢
  generalize hek : (if ok = true then (0 : Int) else 6) = ek at D6 ⊢
  have HY := Lib.hid hy
  have HEK := Lib.hid hek
  clear hy hek
  obtain ⟨_, _, _, _, _, _, _, _, ⟨u0, u1⟩, ⟨t0, t1⟩, _⟩ := D6.out.now
  go_wp2_with fail
  clear t0 t1 u0 u1
  generalize w9.alloc (tmCells y.head a3 y.args.length c3) = w10 at D6 ⊢
  generalize w9.heap.size = b3 at D6 ⊢
  obtain ⟨_, _, _, _, _, _, _, _, _, _, hDu, hDt, hDp, _⟩ := D6.out.now
  refine (refPut_any t p u w10.heap.size a c ap cp au cu w10 (Nat.le_refl _) (by omega) HTW.out HUW.out hDt hDp hDu).mono ?_
  clear hDt hDp hDu
  rintro e w11 h11
  obtain ⟨a4, c4, rfl, hy, hb⟩ := putG_of h11
  rw [HY.out] at hy ⊢
  rw [HOK.out, HEK.out]
  have D7 := Lib.hid (D6.out.pushT hb _ a4 c4 hy)
  clear hb hy h11 D6
  go_wp2
  generalize w11.alloc (tmCells y.head a4 y.args.length c4) = w12 at D7 ⊢
  generalize w11.heap.size = b4 at D7 ⊢
  have AW := Lib.hid (show ∀ W, Below w12.heap.size w12 W → Calls Try.prog 16 #[] W fun e w' => e = .returned (.bool true) ∧ Below W.heap.size W w' from fun W hW => awake2_any W)
  have CL := Lib.hid (show ∀ W, Below w12.heap.size w12 W → Calls Try.prog 18 #[tm t.head a t.args.length c] W (LsG t.all W) from fun W hW => (all_any t (by omega) W.heap.size a c W (Nat.le_refl _) (D7.out W hW).2.2.2.2.2.2.2.2.2.2.2.2.2.1).mono fun e w' hh => by
    obtain ⟨v, xs, rfl, ho, hp, hb⟩ := hh
    rw [allp_nil] at ho hp
    obtain ⟨a', c', rfl, hl⟩ := isLs_of_owns ho hp
    exact ⟨a', c', rfl, hl, hb⟩)
  have CR := Lib.hid (show ∀ W, Below w12.heap.size w12 W → Calls Try.prog 19 #[tm t.head a t.args.length c] W (LsG t.all W) from fun W hW => (refAll_any t.size t (Nat.le_refl _) (by omega) W.heap.size a c W (Nat.le_refl _) (D7.out W hW).2.2.2.2.2.2.2.2.2.2.2.2.2.1).mono fun e w' hh => by
    obtain ⟨v, xs, rfl, ho, hp, hb⟩ := hh
    obtain ⟨a', c', rfl, hl⟩ := isLs_of_owns' ho hp
    exact ⟨a', c', rfl, hl, hb⟩)
  have CS := Lib.hid (show ∀ (X W : World) (aL cL aM cM), IsLs W.heap.size W t.all aL cL → IsLs W.heap.size W t.all aM cM → Calls Try.prog 17 #[.slice aL t.all.length cL, .slice aM t.all.length cM] W fun e w' => e = .returned (.bool true) ∧ Below W.heap.size W w' from fun X W aL cL aM cM h1 h2 => (same2_any t.all t.all W.heap.size aL cL aM cM W (Nat.le_refl _) h1 h2).mono fun e w' hh => ⟨by rw [hh.1]; simp, hh.2⟩)
  have C1 := Lib.hid (show ∀ W, Below w12.heap.size w12 W → Calls Try.prog 20 #[tm x.head a1 x.args.length c1, tm x.head a2 x.args.length c2] W fun e w' => e = .returned (.bool true) ∧ Below W.heap.size W w' from fun W hW => by
    obtain ⟨_, _, _, _, _, h2, _, h1, _⟩ := D7.out W hW
    exact sameAt_any x x rfl (by omega) W.heap.size a1 c1 a2 c2 W (Nat.le_refl _) h1 h2)
  have C2 := Lib.hid (show ∀ W, Below w12.heap.size w12 W → Calls Try.prog 20 #[tm y.head a3 y.args.length c3, tm y.head a4 y.args.length c4] W fun e w' => e = .returned (.bool true) ∧ Below W.heap.size W w' from fun W hW => by
    obtain ⟨_, h4, _, h3, _⟩ := D7.out W hW
    exact sameAt_any y y rfl (by omega) W.heap.size a3 c3 a4 c4 W (Nat.le_refl _) h3 h4)
  have C3 := Lib.hid (show ∀ W, Below w12.heap.size w12 W → Calls Try.prog 20 #[tm t.head a t.args.length c, tm t.head ak t.args.length ck] W fun e w' => e = .returned (.bool true) ∧ Below W.heap.size W w' from fun W hW => by
    obtain ⟨_, _, _, _, _, _, _, _, _, hk, _, _, _, ht, _⟩ := D7.out W hW
    exact sameAt_any t t rfl (by omega) W.heap.size a c ak ck W (Nat.le_refl _) ht hk)
  have KP := Lib.hid (show ∀ W, Below w12.heap.size w12 W → W.cell? ⟨bt, 0, none⟩ = some (.int .i64 t.head) ∧ W.cell? ⟨bt, 1, none⟩ = some (.slice a t.args.length c) ∧ W.cell? ⟨bk, 0, none⟩ = some (.int .i64 t.head) ∧ W.cell? ⟨bk, 1, none⟩ = some (.slice ak t.args.length ck) ∧ W.cell? ⟨b1, 0, none⟩ = some (.int .i64 x.head) ∧ W.cell? ⟨b1, 1, none⟩ = some (.slice a1 x.args.length c1) ∧ W.cell? ⟨b2, 0, none⟩ = some (.int .i64 x.head) ∧ W.cell? ⟨b2, 1, none⟩ = some (.slice a2 x.args.length c2) ∧ W.cell? ⟨b3, 0, none⟩ = some (.int .i64 y.head) ∧ W.cell? ⟨b3, 1, none⟩ = some (.slice a3 y.args.length c3) ∧ W.cell? ⟨b4, 0, none⟩ = some (.int .i64 y.head) ∧ W.cell? ⟨b4, 1, none⟩ = some (.slice a4 y.args.length c4) ∧ Below w12.heap.size w12 W from fun W hW => by
    obtain ⟨⟨p1, p2⟩, _, ⟨p3, p4⟩, _, ⟨p5, p6⟩, _, ⟨p7, p8⟩, _, ⟨p9, p10⟩, _, _, ⟨p11, p12⟩, _⟩ := D7.out W hW
    exact ⟨p11, p12, p9, p10, p7, p8, p5, p6, p3, p4, p1, p2, hW⟩)
  have HE := Lib.hid (fun W hW => (D7.out W hW).2.2.2.2.2.2.2.2.2.2.2.2.2.2.2)
  clear D7 HX HOK HY HEK hxs hys hts hus HTW HUW HPL
  refine wp_region_noPanic ?_
  go_region_held3 (fun w' => w'.cell? ⟨bt, 0, none⟩ = some (.int .i64 t.head) ∧ w'.cell? ⟨bt, 1, none⟩ = some (.slice a t.args.length c) ∧ w'.cell? ⟨bk, 0, none⟩ = some (.int .i64 t.head) ∧ w'.cell? ⟨bk, 1, none⟩ = some (.slice ak t.args.length ck) ∧ w'.cell? ⟨b1, 0, none⟩ = some (.int .i64 x.head) ∧ w'.cell? ⟨b1, 1, none⟩ = some (.slice a1 x.args.length c1) ∧ w'.cell? ⟨b2, 0, none⟩ = some (.int .i64 x.head) ∧ w'.cell? ⟨b2, 1, none⟩ = some (.slice a2 x.args.length c2) ∧ w'.cell? ⟨b3, 0, none⟩ = some (.int .i64 y.head) ∧ w'.cell? ⟨b3, 1, none⟩ = some (.slice a3 y.args.length c3) ∧ w'.cell? ⟨b4, 0, none⟩ = some (.int .i64 y.head) ∧ w'.cell? ⟨b4, 1, none⟩ = some (.slice a4 y.args.length c4) ∧ Below w12.heap.size w12 w')
    (first
      | exact KP.out _ (Below.refl _ _)
      | exact KP.out _ (Below.refl _ _).drew
      | exact KP.out _ hB)
    (first
      | (go_at_call 16; refine (AW.out _ ?_).mono ?_; (exact (‹_ ∧ _ ∧ _ ∧ _ ∧ _ ∧ _ ∧ _ ∧ _ ∧ _ ∧ _ ∧ _ ∧ _ ∧ Below w12.heap.size w12 _›.2.2.2.2.2.2.2.2.2.2.2.2)); rintro e w13 ⟨rfl, hb⟩; have hB : Below w12.heap.size w12 w13 := Below.trans (‹_ ∧ _ ∧ _ ∧ _ ∧ _ ∧ _ ∧ _ ∧ _ ∧ _ ∧ _ ∧ _ ∧ _ ∧ Below w12.heap.size w12 _›.2.2.2.2.2.2.2.2.2.2.2.2) (hb.mono (‹_ ∧ _ ∧ _ ∧ _ ∧ _ ∧ _ ∧ _ ∧ _ ∧ _ ∧ _ ∧ _ ∧ _ ∧ Below w12.heap.size w12 _›.2.2.2.2.2.2.2.2.2.2.2.2).size))
      | (go_at_call 18; refine (CL.out _ ?_).mono ?_; (exact (‹_ ∧ _ ∧ _ ∧ _ ∧ _ ∧ _ ∧ _ ∧ _ ∧ _ ∧ _ ∧ _ ∧ _ ∧ Below w12.heap.size w12 _›.2.2.2.2.2.2.2.2.2.2.2.2)); rintro e w14 ⟨aL, cL, rfl, hL, hb⟩; have lL := later_ls hL; have hB : Below w12.heap.size w12 w14 := Below.trans (‹_ ∧ _ ∧ _ ∧ _ ∧ _ ∧ _ ∧ _ ∧ _ ∧ _ ∧ _ ∧ _ ∧ _ ∧ Below w12.heap.size w12 _›.2.2.2.2.2.2.2.2.2.2.2.2) (hb.mono (‹_ ∧ _ ∧ _ ∧ _ ∧ _ ∧ _ ∧ _ ∧ _ ∧ _ ∧ _ ∧ _ ∧ _ ∧ Below w12.heap.size w12 _›.2.2.2.2.2.2.2.2.2.2.2.2).size))
      | (go_at_call 19; refine (CR.out _ ?_).mono ?_; (exact (‹_ ∧ _ ∧ _ ∧ _ ∧ _ ∧ _ ∧ _ ∧ _ ∧ _ ∧ _ ∧ _ ∧ _ ∧ Below w12.heap.size w12 _›.2.2.2.2.2.2.2.2.2.2.2.2)); rintro e w15 ⟨aM, cM, rfl, hM, hb⟩; have hL5 := lL w15 ⟨hb.os, hb.tape, hb.output, hb.size, hb.block⟩; have hB : Below w12.heap.size w12 w15 := Below.trans (‹_ ∧ _ ∧ _ ∧ _ ∧ _ ∧ _ ∧ _ ∧ _ ∧ _ ∧ _ ∧ _ ∧ _ ∧ Below w12.heap.size w12 _›.2.2.2.2.2.2.2.2.2.2.2.2) (hb.mono (‹_ ∧ _ ∧ _ ∧ _ ∧ _ ∧ _ ∧ _ ∧ _ ∧ _ ∧ _ ∧ _ ∧ _ ∧ Below w12.heap.size w12 _›.2.2.2.2.2.2.2.2.2.2.2.2).size))
      | (go_at_call 17; refine (CS.out w12 _ _ _ _ _ hL5 hM).mono ?_; rintro e w16 ⟨rfl, hb⟩; have hB : Below w12.heap.size w12 w16 := Below.trans (‹_ ∧ _ ∧ _ ∧ _ ∧ _ ∧ _ ∧ _ ∧ _ ∧ _ ∧ _ ∧ _ ∧ _ ∧ Below w12.heap.size w12 _›.2.2.2.2.2.2.2.2.2.2.2.2) (hb.mono (‹_ ∧ _ ∧ _ ∧ _ ∧ _ ∧ _ ∧ _ ∧ _ ∧ _ ∧ _ ∧ _ ∧ _ ∧ Below w12.heap.size w12 _›.2.2.2.2.2.2.2.2.2.2.2.2).size))
      | (go_at_call 20; refine Calls.mono (by first | exact C1.out _ (‹_ ∧ _ ∧ _ ∧ _ ∧ _ ∧ _ ∧ _ ∧ _ ∧ _ ∧ _ ∧ _ ∧ _ ∧ Below w12.heap.size w12 _›.2.2.2.2.2.2.2.2.2.2.2.2) | exact C2.out _ (‹_ ∧ _ ∧ _ ∧ _ ∧ _ ∧ _ ∧ _ ∧ _ ∧ _ ∧ _ ∧ _ ∧ _ ∧ Below w12.heap.size w12 _›.2.2.2.2.2.2.2.2.2.2.2.2) | exact C3.out _ (‹_ ∧ _ ∧ _ ∧ _ ∧ _ ∧ _ ∧ _ ∧ _ ∧ _ ∧ _ ∧ _ ∧ _ ∧ Below w12.heap.size w12 _›.2.2.2.2.2.2.2.2.2.2.2.2)) ?_; rintro e w17 ⟨rfl, hb⟩; have hB : Below w12.heap.size w12 w17 := Below.trans (‹_ ∧ _ ∧ _ ∧ _ ∧ _ ∧ _ ∧ _ ∧ _ ∧ _ ∧ _ ∧ _ ∧ _ ∧ Below w12.heap.size w12 _›.2.2.2.2.2.2.2.2.2.2.2.2) (hb.mono (‹_ ∧ _ ∧ _ ∧ _ ∧ _ ∧ _ ∧ _ ∧ _ ∧ _ ∧ _ ∧ _ ∧ _ ∧ Below w12.heap.size w12 _›.2.2.2.2.2.2.2.2.2.2.2.2).size)))
  all_goals (refine NoPanic.normal ?_; go_wp2; go_ret; exact ⟨by simp, by rw [HBT.out]; exact HE.out _ hB⟩)

end Go.Proofs.Ytdigccbffphilaa
