/- Contract of the reference's All. -/
import Derived.Test.YtdigccbffphilaaRAll
import Derived.Test.YtdigccbffphilaaAll
import Derived.Test.YtdigccbffphilaaRCopy
import Derived.Test.YtdigccbffphilaaPl3
import Derived.Deep.Onto
namespace Go.Proofs.Ytdigccbffphilaa
set_option linter.unusedVariables false
set_option linter.unusedSimpArgs false
open Go.RowKit

theorem T.alls_take : ∀ (ts : List T) (i k : Nat) (t : T), ts[k]? = some t → T.alls i (ts.take (k + 1)) = T.alls i (ts.take k) ++ behind (i + k) t.all
  | [], i, k, t, h => by simp at h
  | s :: ts, i, 0, t, h => by simp at h; subst h; simp [T.alls]
  | s :: ts, i, k + 1, t, h => by
    have := T.alls_take ts (i + 1) k t (by simpa using h)
    simp only [List.take_succ_cons, T.alls, this, List.append_assoc]
    rw [show i + 1 + k = i + (k + 1) from by omega]
theorem T.all_length (t : T) : t.all.length = t.size := by
  have h := T.allp_length [] t
  rw [T.allp_all] at h
  simpa using h
theorem T.alls_length (ts : List T) : (T.alls 0 ts).length = T.sizes ts := by
  have h := T.allps_length [] 0 ts
  rw [T.allps_alls] at h
  simpa using h
theorem all_short : ∀ (N : Nat) (t : T), t.size ≤ N → ∀ p ∈ t.all, p.length < t.size := by
  intro N
  induction N with
  | zero => intro t ht; have := T.size_pos t; omega
  | succ N ih =>
    intro t ht p hp
    have hp0 := T.size_pos t
    rw [T.all_eq, List.mem_cons] at hp
    rcases hp with rfl | hp
    · simpa using hp0
    · obtain ⟨k, x, p', h1, rfl, h3⟩ := mem_alls hp
      have hx := T.size_lt_of_mem h1
      have ht' := T.size_eq t
      have := ih x (by omega) p' h3
      simp; omega
theorem behind_take {i j : Nat} {L : List (List Int)} {p : List Int} (h : L[j]? = some p) : behind i (L.take (j + 1)) = behind i (L.take j) ++ [(i : Int) :: p] := by
  obtain ⟨hj, e⟩ := List.getElem?_eq_some_iff.1 h
  rw [List.take_succ_eq_append_getElem hj, e]
  simp [behind]

def RAllPost (t : T) (w : World) (e : Ending) (w' : World) : Prop := ∃ v xs, e = .returned v ∧ w'.ownsRow w.heap.size 25 1 v t.all.length xs ∧ PosNs w.heap.size w' t.all xs ∧ Below w.heap.size w w'

/-- The list so far, in a row of its own. -/
def OutI (B : Nat) (w1 : World) (L : List (List Int)) (v : Value) (W : World) : Prop := ∃ xs, W.ownsRow B 25 1 v L.length xs ∧ PosNs B W L xs ∧ Below B w1 W
def RAllI (t : T) (B : Nat) (w1 : World) (v i : Value) (W : World) : Prop := ∃ k : Nat, k ≤ t.args.length ∧ i = .int .i64 k ∧ OutI B w1 ([] :: T.alls 0 (t.args.take k)) v W
def RAllJ (i : Nat) (s : T) (L : List (List Int)) (B : Nat) (w1 : World) (vl : Value) (ys : List Value) (v k : Value) (W : World) : Prop :=
  ∃ j : Nat, j ≤ s.all.length ∧ k = .int .i64 j ∧ OutI B w1 (L ++ behind i (s.all.take j)) v W ∧ W.ownsRow B 25 1 vl s.all.length ys ∧ PosNs B W s.all ys ∧ ∀ g, v.ownBlock = some g → vl.ownBlock ≠ some g

theorem PosN.mono {l l' : Nat} {W : World} {p : List Int} {x : Value} (h : PosN l W p x) (hl : l' ≤ l) : PosN l' W p x := h.imp id (fun h => h.mono hl)
theorem PosNs.mono {l l' : Nat} {W : World} (hl : l' ≤ l) : ∀ {ps : List (List Int)} {xs : List Value}, PosNs l W ps xs → PosNs l' W ps xs
  | [], [], _ => trivial
  | _ :: _, _ :: _, ⟨h1, h2⟩ => ⟨h1.mono hl, PosNs.mono hl h2⟩
  | [], _ :: _, h => h.elim
  | _ :: _, [], h => h.elim
theorem OutI.later {B : Nat} {w1 W W' : World} {L : List (List Int)} {v : Value} (h : OutI B w1 L v W) (hz : B ≤ W.heap.size) (hb : Below W.heap.size W W') : OutI B w1 L v W' := by
  obtain ⟨xs, h1, h2, h3⟩ := h
  exact ⟨xs, ownsRow_later h1 hb, h2.keepInt (KeepInt.of_below hb), h3.trans (hb.mono hz)⟩

/-- One position more. -/
theorem rall_step {i j : Nat} {s : T} {L : List (List Int)} {B : Nat} {w1 : World} {vl v x' : Value} {ys xs : List Value} {W W2 W4 : World} {p : List Int} {g cap : Nat} (ho : W.ownsRow B 25 1 v (L ++ behind i (s.all.take j)).length xs) (hps : PosNs B W (L ++ behind i (s.all.take j)) xs) (hB : Below B w1 W) (hz : B ≤ W.heap.size)
    (hvl : W.ownsRow B 25 1 vl s.all.length ys) (hys : PosNs B W s.all ys) (hap : ∀ g, v.ownBlock = some g → vl.ownBlock ≠ some g) (hp : s.all[j]? = some p) (hx : PosV W.heap.size W2 ((i : Int) :: p) x') (hb2 : Below W.heap.size W W2) {ob : Obj}
    (ho4 : W4.ownsRow B 25 1 (.slice (some ⟨g, 0, none⟩) ((L ++ behind i (s.all.take j)).length + 1) cap) ((L ++ behind i (s.all.take j)).length + 1) (xs ++ [x'])) (hg4 : (W2.alloc ob).grownBy W4 v.ownBlock) (hat : v.ownBlock = some g ∨ g = W2.heap.size + 1) :
    RAllJ i s L B w1 vl ys (.slice (some ⟨g, 0, none⟩) ((L ++ behind i (s.all.take j)).length + 1) cap) (.int .i64 ((j + 1 : Nat) : Int)) W4 := by
  have hbo : Below W2.heap.size W2 (W2.alloc ob) := (Below.refl _ _).alloc (Nat.le_refl _) ob
  have ho3 := (ownsRow_later ho hb2).alloc ob
  have k24 : KeepInt W2 W4 := (KeepInt.of_below hbo).trans (KeepInt.of_grown ho3 hg4)
  have k4 : KeepInt W W4 := (KeepInt.of_below hb2).trans k24
  have hs2 := hb2.size
  have hLe : L ++ behind i (s.all.take (j + 1)) = (L ++ behind i (s.all.take j)) ++ [(i : Int) :: p] := by rw [behind_take hp, ← List.append_assoc]
  refine ⟨j + 1, (List.getElem?_eq_some_iff.1 hp).1, rfl, ⟨xs ++ [x'], ?_, ?_, ?_⟩, ?_, hys.keepInt k4, ?_⟩
  · rw [hLe, show ((L ++ behind i (s.all.take j)) ++ [(i : Int) :: p]).length = (L ++ behind i (s.all.take j)).length + 1 from by rw [List.length_append]; rfl]
    exact ho4
  · rw [hLe]
    exact PosNs.snoc (.inr ((hx.mono hz).keepInt k24)) (hps.keepInt k4)
  · exact (hB.trans ((hb2.mono hz).alloc (by omega) ob)).grown hg4 (by simp; omega) (fun k hk => (ho.lt k hk).1)
  · refine ((ownsRow_later hvl hb2).alloc ob).kept hg4 ?_
    cases hv : vl.ownBlock with
    | none => exact .inl rfl
    | some q => exact .inr (fun e => hap q e.symm hv)
  · intro g' hg' e
    simp [Value.ownBlock] at hg'
    subst hg'
    rcases hat with h | h
    · exact hap _ h e
    · have := (hvl.lt _ e).2
      omega

set_option maxRecDepth 100000 in
set_option maxHeartbeats 4000000 in
theorem refAll_any : ∀ (N : Nat) (t : T), t.size ≤ N → t.size ≤ 1000000 → ∀ (n₀ : Nat) (a : Option Addr) (c : Nat) (w : World), n₀ ≤ w.heap.size → IsArgs n₀ w t.args a c →
    Calls Try.prog 19 #[tm t.head a t.args.length c] w (RAllPost t w) := by
  intro N
  induction N with
  | zero => intro t ht; have := T.size_pos t; omega
  | succ N ih =>
    intro t ht hbig n₀ a c w hn hA
    have IH := Lib.hid ih
    have hsz := T.size_eq t
    have hlz := T.sizes_ge_length t.args
    have hlc : t.args.length ≤ c ∧ c ≤ maxLen := ⟨hA.1, hA.2.1⟩
    unfold maxLen at hlc
    obtain ⟨hl1, hl2⟩ := hlc
    have HS := Lib.hid hsz
    have hlen : t.args.length ≤ 1000000 := by omega
    have HA := Lib.hid hA
    clear ih hA hsz hlz
    obtain ⟨i0, hi, hz0, hz1, hz2⟩ := info_parts infoInts
    go_enter Try.func19, Try.ntmps19
    go_wp2
    obtain ⟨w1, hw1⟩ : ∃ w1, w.alloc (tmCells t.head a t.args.length c) = w1 := ⟨_, rfl⟩
    have hs1 : w1.heap.size = w.heap.size + 1 := by rw [← hw1]; simp
    have hb1 : Below w.heap.size w w1 := by rw [← hw1]; exact (Below.refl _ w).alloc (Nat.le_refl _) _
    have hbx : w1.cell? ⟨w.heap.size, 1, none⟩ = some (.slice a t.args.length c) := by rw [← hw1]; simp [go_sem]
    rw [hw1]
    have HBX := Lib.hid hbx
    have HS1 := Lib.hid hs1
    have HB1 := Lib.hid hb1
    clear hw1 hbx hs1 hb1
    go_loopw [3, 4] (fun v i W => RAllI t (w.heap.size + 1) w1 v i W) (fun _ i _ => t.args.length - (intOf i).toNat)
    case atStart =>
      refine ⟨0, Nat.zero_le _, rfl, [.slice none 0 0], ?_, ⟨.inl ⟨rfl, rfl⟩, trivial⟩, (Below.refl _ _).alloc (by rw [HS1.out]; exact Nat.le_refl _) _⟩
      rw [← HS1.out]
      exact World.ownsRow_lit w1 #[.slice none 0 0] 1 (Nat.le_refl _) (by simp [maxLen]) rfl
    case round =>
      obtain ⟨k, hk, rfl, xs, ho, hps, hB⟩ := hrel
      have hz : w.heap.size + 1 ≤ wr.heap.size := by have := hB.size; have := HS1.out; omega
      have hw : Below w.heap.size w wr := HB1.out.trans (hB.mono (by omega))
      have hbx := (hB.cell (p := ⟨w.heap.size, 1, none⟩) (by simp)).trans HBX.out
      have hlp : (([] : List Int) :: T.alls 0 (t.args.take k)).length = 1 + T.sizes (t.args.take k) := by simp [T.alls_length]; omega
      have HLP := Lib.hid hlp
      have HO := Lib.hid ho
      have HP := Lib.hid hps
      have HBL := Lib.hid hB
      have HW := Lib.hid hw
      clear ho hps hB hw hlp
      by_cases hlt : k < t.args.length
      · obtain ⟨b, o, s, a', c', rfl, hbn, hs, hswf, hc1, hc2, hA'⟩ := (HA.out.below (HW.out.mono hn)).elem (i := k) hlt
        have hsN : s.size ≤ N := by have := T.size_lt_of_mem hs; have := HS.out; omega
        have hsb : s.size ≤ 1000000 := by have := T.size_lt_of_mem hs; have := HS.out; omega
        have hfit : 1 + T.sizes (t.args.take k) + s.size ≤ 1000000 := by
          have h1 := T.sizes_take hs
          have h2 := T.sizes_append (t.args.take (k + 1)) (t.args.drop (k + 1))
          rw [List.take_append_drop] at h2
          have := HS.out
          omega
        have HSS := Lib.hid hs
        have HA' := Lib.hid hA'
        have hk0 : (0 : Int) ≤ (k : Int) := Int.natCast_nonneg _
        have hk1 : (k : Int) < (t.args.length : Int) := by omega
        clear hs hA' hswf
        go_wp2_with fail
        refine (IH.out s hsN hsb n₀ a' c' wr (by omega) HA'.out).mono ?_
        rintro e w2 ⟨vl, ys, rfl, hvl, hys, hb2⟩
        obtain ⟨gl, cl, rfl⟩ : ∃ gl cl, vl = .slice (some ⟨gl, 0, none⟩) s.size cl := by
          have h0 := T.all_length s
          have h1 := T.size_pos s
          rcases hvl.2 with ⟨_, h⟩ | ⟨g, cap, cur, h, _⟩
          · omega
          · exact ⟨g, cap, h0 ▸ h⟩
        have hz2' : w.heap.size + 1 ≤ w2.heap.size := Nat.le_trans hz hb2.size
        have HJ := Lib.hid (show RAllJ k s ([] :: T.alls 0 (t.args.take k)) (w.heap.size + 1) w1 (.slice (some ⟨gl, 0, none⟩) s.size cl) ys u3 (.int .i64 ((0 : Nat) : Int)) w2 from ⟨0, Nat.zero_le _, rfl, by simpa [behind] using (OutI.later ⟨xs, HO.out, HP.out, HBL.out⟩ hz hb2), hvl.mono hz, hys.mono hz, fun g h1 h2 => by have := (HO.out.lt g h1).2; have := (hvl.lt g h2).1; omega⟩)
        have HYL := Lib.hid hvl
        clear hvl hys hb2
        go_wp2
        go_loopw [3, 6] (fun v j W => RAllJ k s ([] :: T.alls 0 (t.args.take k)) (w.heap.size + 1) w1 (.slice (some ⟨gl, 0, none⟩) s.size cl) ys v j W) (fun _ j _ => s.size - (intOf j).toNat)
        case atStart => exact HJ.out
        case round =>
          clear HJ
          obtain ⟨j, hj, rfl, ⟨zs, ho, hps, hB⟩, hvl, hys, hap⟩ := hrel
          rw [T.all_length] at hj
          have hz : w.heap.size + 1 ≤ wr.heap.size := by have := hB.size; have := HS1.out; omega
          have HO := Lib.hid ho
          have HP := Lib.hid hps
          have HBL := Lib.hid hB
          have HVL := Lib.hid hvl
          have HYS := Lib.hid hys
          have HAP := Lib.hid hap
          clear ho hps hB hvl hys hap
          by_cases hjl : j < s.size
          · have hjk : j < s.all.length := by rw [T.all_length]; exact hjl
            obtain ⟨p, hp⟩ : ∃ p, s.all[j]? = some p := ⟨_, List.getElem?_eq_getElem hjk⟩
            obtain ⟨y, hy, hpy⟩ := HYS.out.get hp
            obtain ⟨a5, c5, rfl, hI5, hn5⟩ := hpy.isIs
            have hcy : wr.cell? ⟨gl, j, none⟩ = some (.slice a5 p.length c5) := by
              have := HVL.out.cells rfl j _ hy
              rw [addr_add] at this
              simpa using this
            have hpl : p.length < 1000000 := by have := all_short _ s (Nat.le_refl _) p (List.mem_of_getElem? hp); omega
            have hnl : ([] :: T.alls 0 (t.args.take k) ++ behind k (s.all.take j)).length + 1 ≤ 1000000 := by
              have h1 := HLP.out
              rw [List.length_append, h1]
              simp [behind]
              omega
            have cc : ∀ W, Below wr.heap.size wr W → Calls Try.prog 46 #[.int .i64 (k : Int), .slice a5 p.length c5] W (BehPost (k : Int) p W) := fun W hW => behind_any (k : Int) p hpl wr.heap.size a5 c5 W hW.size (hI5.below hW) hn5
            have CC := Lib.hid cc
            have hj0 : (0 : Int) ≤ (j : Int) := Int.natCast_nonneg _
            have hj1 : (j : Int) < (s.size : Int) := by omega
            have hglt : gl < wr.heap.size := (HVL.out.lt gl rfl).2
            have HPP := Lib.hid hp
            have HNL := Lib.hid hnl
            clear cc hI5 hpy hy hp hnl
            go_wp2_with fail
            refine (CC.out wr (Below.refl _ _)).mono ?_
            rintro e w4 ⟨x4, rfl, hp4, hb4⟩
            obtain ⟨g4, cap4, rfl⟩ : ∃ g4 cap4, x4 = .slice (some ⟨g4, 0, none⟩) (p.length + 1) cap4 := by obtain ⟨g, cap, cur, h, _⟩ := hp4; exact ⟨g, cap, h⟩
            have hz4 := hb4.size
            have HP4 := Lib.hid hp4
            have HB4 := Lib.hid hb4
            clear hp4 hb4
            go_wp2_with (at_builtin; refine stopHere ?_)
            refine Lib.hid ?_
            refine wpList_append_lies _ (by rfl) _ _ 36 (by rfl) (w.heap.size + 1) 25 i0 _ 1 24 Try.underlying36 hi hz0 hz1 hz2 rfl (by omega) u3 _ zs (by rfl) ((ownsRow_later HO.out HB4.out).alloc _)
              ⟨w4.heap.size, 0, none⟩ 1 1 [.slice (some ⟨g4, 0, none⟩) (p.length + 1) cap4] (by rfl) (by simp) (World.news_of_block (cs := #[.slice (some ⟨g4, 0, none⟩) (p.length + 1) cap4]) (t := 25) (fr := (0, 0)) (heap_alloc_new w4 _)) (by simp [Value.oneCell'])
              (by omega) (by have := HNL.out; unfold maxLen; omega) (by have := HNL.out; omega) (by simp; omega) (w4.heap.size + 1) (by simp) ?_
            intro g5 cap5 w5 hown5 hgrow5 hat5 hlt5
            have HJ5 := Lib.hid (rall_step HO.out HP.out HBL.out hz HVL.out HYS.out HAP.out HPP.out HP4.out HB4.out hown5 hgrow5 hat5)
            clear hown5 hgrow5 hat5
            generalize ([] :: T.alls 0 (t.args.take k) ++ behind k (s.all.take j)).length + 1 = m5 at HJ5 ⊢
            go_wp2
            go_roundw
            case rel => exact HJ5.out
            case measure => simp [intOf]; omega
          · obtain rfl : j = s.size := by omega
            have ho := HO.out
            have hp := HP.out
            have hts : [] :: T.alls 0 (t.args.take k) ++ behind k (s.all.take s.size) = [] :: T.alls 0 (t.args.take (k + 1)) := by
              rw [T.alls_take t.args 0 k s HSS.out, ← T.all_length s, List.take_length]
              simp
            rw [hts] at ho hp
            have HF := Lib.hid (show RAllI t (w.heap.size + 1) w1 u3 (.int .i64 ((k + 1 : Nat) : Int)) wr from ⟨k + 1, by omega, rfl, zs, ho, hp, HBL.out⟩)
            clear ho hp hts
            go_wp2
            go_roundw
            case rel => exact HF.out
            case measure => simp [intOf]; omega
      · obtain rfl : k = t.args.length := by omega
        have ho := HO.out
        have hp := HP.out
        rw [List.take_length, ← T.all_eq] at ho hp
        have HF := Lib.hid (show RAllPost t w (.returned u3) wr from ⟨u3, xs, rfl, ho.mono (Nat.le_succ _), hp.mono (Nat.le_succ _), HW.out⟩)
        clear ho hp
        go_wp2
        go_ret
        exact HF.out

end Go.Proofs.Ytdigccbffphilaa
