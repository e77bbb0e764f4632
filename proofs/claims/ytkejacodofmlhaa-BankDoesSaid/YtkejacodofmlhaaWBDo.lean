/- The walk of BankDoes. -/
import Derived.Test.YtkejacodofmlhaaLaw6
import Derived.Test.YtkejacodofmlhaaRBa
import Derived.Test.YtkejacodofmlhaaBkO
import Derived.Test.YtkejacodofmlhaaFw5
import Derived.Deep.QuietTactic
import Derived.BigQuiet
namespace Go.Proofs.Ytkejacodofmlhaa
set_option linter.unusedVariables false
set_option linter.unusedSimpArgs false
open Go.RowKit Go.Maps

theorem pt_check : ∀ (N : Nat) (t : T), t.size ≤ N → t.check = 0 → ∀ (L : List T), ∀ u ∈ (pt L t).1, u ∈ L ∨ u.check = 0 := by
  intro N
  induction N with
  | zero => intro t ht; have := T.size_pos t; omega
  | succ N ih =>
    intro t ht hc L
    have hl : ∀ (us : List T), T.sizes us ≤ N → (∀ (i : Nat) (s : T), us[i]? = some s → s.check = 0) → ∀ (L : List T), ∀ u ∈ (pts L us).1, u ∈ L ∨ u.check = 0 := by
      intro us
      induction us with
      | nil => intro _ _ L u hu; simp only [pts] at hu; exact .inl hu
      | cons x us ihu =>
        intro hs hx L u hu
        simp only [T.sizes] at hs
        have h2 := ih x (by omega) (hx 0 x rfl) L
        rw [pts] at hu
        rcases hp : pt L x with ⟨L1, _ | i⟩
        · rw [hp] at h2 hu
          exact h2 u hu
        · rw [hp] at h2 hu
          rcases ihu (by omega) (fun i s h => hx (i + 1) s (by simpa using h)) L1 u hu with h | h
          · exact h2 u h
          · exact .inr h
    have hsz := T.size_eq t
    intro u hu
    rw [pt_eq] at hu
    by_cases hin : t ∈ L
    · rw [if_pos hin] at hu; exact .inl hu
    · rw [if_neg hin] at hu
      have h2 := hl t.args (by omega) (fun i s h => check_arg hc h) L
      rcases hp : pts L t.args with ⟨L1, _ | _⟩
      · rw [hp] at h2 hu
        exact h2 u hu
      · rw [hp] at h2 hu
        simp only [] at hu
        split at hu
        · exact h2 u hu
        · rcases List.mem_append.1 hu with hu | hu
          · exact h2 u hu
          · obtain rfl : u = t := by simpa using hu
            exact .inr hc
theorem do_put {L : List T} (hL : ∀ u ∈ L, u.check = 0) (t : T) (hz : L.length + t.size ≤ 4096) : (∀ u ∈ putL L t, u.check = 0) ∧ (putL L t).length ≤ L.length + t.size ∧ ∃ x y : Int, putV L t = .tuple #[.int .i64 x, .int .i64 y] := by
  unfold putL putV
  by_cases hc : t.check = 0
  · rw [if_pos hc, if_pos hc]
    exact ⟨fun u hu => (pt_check _ t (Nat.le_refl _) hc L u hu).elim (hL u) id, (pt_room _ t (Nat.le_refl _) L hz).2, _, _, rfl⟩
  · rw [if_neg hc, if_neg hc]
    exact ⟨hL, by omega, _, _, rfl⟩
theorem do_find {L : List T} (hL : ∀ u ∈ L, u.check = 0) (t : T) : findV L t = fi L t := by
  unfold findV
  by_cases hc : t.check = 0
  · rw [if_pos hc]
  · rw [if_neg hc]
    unfold fi
    rw [if_neg (fun h => hc (hL t h))]
theorem do_ids {L : List T} {rs : List (List Int)} (E : Enc L rs) {t : T} {n : Nat} (hn : L[n]? = some t) : refIds L t.args = idsOf L t := by
  unfold refIds idsOf
  refine List.map_congr_left (fun s hs => ?_)
  obtain ⟨j, hj⟩ := List.getElem?_of_mem hs
  obtain ⟨ids, _, _, h3⟩ := E.row hn
  obtain ⟨k, _, _, hk⟩ := h3 hj
  rw [fi_at E hk, (idx_at (fun {i j r} => E.nodup) hk).2]
  rfl

def stepT (s : List Stp) : List T := s.map (fun x => x.2.1)
def DoC (s : List Stp) (w : World) (n i : Value) (wr : World) : Prop := ∃ k m : Nat, k ≤ s.length ∧ i = .int .i64 k ∧ n = .int .i64 (m : Int) ∧ m ≤ 1001 ∧ (m ≤ 500 → T.sizes (stepT (s.take k)) ≤ m) ∧ Below w.heap.size w wr
theorem stepT_succ {s : List Stp} {k : Nat} {x : Stp} (h : s[k]? = some x) : T.sizes (stepT (s.take (k + 1))) = T.sizes (stepT (s.take k)) + x.2.1.size := by
  obtain ⟨hk, e⟩ := List.getElem?_eq_some_iff.1 h
  rw [List.take_succ_eq_append_getElem hk, e]
  simp [stepT, T.sizes_append, T.sizes]
theorem stepT_le {s : List Stp} (k : Nat) : T.sizes (stepT (s.take k)) ≤ T.sizes (stepT s) := by
  have : stepT s = stepT (s.take k) ++ stepT (s.drop k) := by unfold stepT; rw [← List.map_append, List.take_append_drop]
  rw [this, T.sizes_append]
  omega

/-- Where the second loop of BankDoes stands. -/
def DoI (s : List Stp) (w : World) (bb rb : Nat) (i : Value) (wr : World) : Prop :=
  ∃ (k : Nat) (F G : Nat → Prop) (v : Value) (L : List T), k ≤ s.length ∧ i = .int .i64 k ∧ BankAt w.heap.size F wr bb L ∧ RBv w.heap.size G wr rb v L ∧ (∀ i, F i → w.heap.size ≤ i ∧ i < wr.heap.size) ∧ (∀ i, G i → w.heap.size ≤ i ∧ i < wr.heap.size) ∧ (∀ i, F i → ¬ G i) ∧
    (∀ u ∈ L, u.check = 0) ∧ L.length ≤ T.sizes (stepT (s.take k)) ∧ Below w.heap.size w wr

/-- What holds between two rounds of BankDoes. -/
structure DoR (s : List Stp) (w : World) (bb rb k : Nat) (F G : Nat → Prop) (v : Value) (L : List T) (W : World) : Prop where
  bank : BankAt w.heap.size F W bb L
  ref : RBv w.heap.size G W rb v L
  fl : ∀ i, F i → w.heap.size ≤ i ∧ i < W.heap.size
  gl : ∀ i, G i → w.heap.size ≤ i ∧ i < W.heap.size
  fg : ∀ i, F i → ¬ G i
  ck : ∀ u ∈ L, u.check = 0
  len : L.length ≤ T.sizes (stepT (s.take k))
  low : Below w.heap.size w W
theorem DoR.later {s : List Stp} {w : World} {bb rb k : Nat} {F G : Nat → Prop} {v : Value} {L : List T} {W W' : World} (h : DoR s w bb rb k F G v L W) (hb : Below W.heap.size W W') : DoR s w bb rb k F G v L W' :=
  ⟨h.bank.later hb, h.ref.later hb, fun i hi => by have := h.fl i hi; have := hb.size; omega, fun i hi => by have := h.gl i hi; have := hb.size; omega, h.fg, h.ck, h.len, h.low.trans (hb.mono h.low.size)⟩
theorem DoR.toI {s : List Stp} {w : World} {bb rb k : Nat} {F G : Nat → Prop} {v : Value} {L : List T} {W : World} (h : DoR s w bb rb k F G v L W) (hk : k ≤ s.length) : DoI s w bb rb (.int .i64 k) W :=
  ⟨k, F, G, v, L, hk, rfl, h.bank, h.ref, h.fl, h.gl, h.fg, h.ck, h.len, h.low⟩
theorem DoR.put {s : List Stp} {w : World} {bb rb k : Nat} {F G : Nat → Prop} {v v' : Value} {L L' : List T} {W W1 W2 : World} (h : DoR s w bb rb k F G v L W) (h1 : BankAt w.heap.size (Fw F W W1) W1 bb L') (hf : FrS F W W1) (h2 : RBv w.heap.size (Fw G W1 W2) W2 rb v' L') (hr : RS rb v W1 v' W2)
    (hck : ∀ u ∈ L', u.check = 0) (hlen : L'.length ≤ T.sizes (stepT (s.take (k + 1)))) : DoR s w bb rb (k + 1) (Fw F W W1) (Fw G W1 W2) v' L' W2 := by
  have hz1 := hf.size
  have hz2 := hr.size
  have hz0 := h.low.size
  obtain ⟨xs, r1, r2, r3, r4, r5, r6⟩ := id h.ref
  have hgne : ∀ i, Fw F W W1 i → i < W1.heap.size → i ≠ rb ∧ v.ownBlock ≠ some i := fun i hi hl => by
    rcases hi with hi | hi
    · exact ⟨fun e => h.fg i hi (e ▸ r4), fun e => h.fg i hi (r5 i e)⟩
    · exact ⟨fun e => by have := (h.gl rb r4).2; omega, fun e => by have := (h.gl i (r5 i e)).2; omega⟩
  refine ⟨h1.kept (fun i hi hl => hr.block i hl (hgne i hi hl).1 (hgne i hi hl).2), h2, fun i hi => ?_, fun i hi => ?_, fun i hi hj => ?_, hck, hlen, ?_⟩
  · rcases hi with hi | hi
    · have := h.fl i hi; omega
    · omega
  · rcases hi with hi | hi
    · have := h.gl i hi; omega
    · omega
  · rcases hi with hi | hi <;> rcases hj with hj | hj
    · exact h.fg i hi hj
    · have := (h.fl i hi).2; omega
    · have := (h.gl i hj).2; omega
    · omega
  · refine h.low.trans ((hf.below hz0 (fun i hi => (h.fl i hi).1)).trans ⟨hr.os, hr.tape, hr.output, hr.size, fun i hi => hr.block i (by omega) (fun e => by have := (h.gl rb r4).1; omega) (fun e => by have := (h.gl i (r5 i e)).1; omega)⟩)

theorem DoR.up {s : List Stp} {w : World} {bb rb k : Nat} {F G : Nat → Prop} {v : Value} {L : List T} {W : World} (h : DoR s w bb rb k F G v L W) (hk : T.sizes (stepT (s.take k)) ≤ T.sizes (stepT (s.take (k + 1)))) : DoR s w bb rb (k + 1) F G v L W :=
  ⟨h.bank, h.ref, h.fl, h.gl, h.fg, h.ck, Nat.le_trans h.len hk, h.low⟩

def TQ (t0 : T) (E : Int) (W : World) (e : Ending) (w' : World) : Prop := ∃ a c, e = .returned (.tuple #[tm t0.head a t0.args.length c, .int .i64 E]) ∧ IsArgs w'.heap.size w' t0.args a c ∧ Below W.heap.size W w'
def IQ (zs : List Int) (E : Int) (W : World) (e : Ending) (w' : World) : Prop := ∃ v, e = .returned (.tuple #[v, .int .i64 E]) ∧ IsInts w' v zs ∧ Below W.heap.size W w'
theorem ints_slice6 {W : World} {v : Value} {zs : List Int} (h : IsInts W v zs) : ∃ a c, v = .slice a zs.length c := by
  rcases h with ⟨h, h0⟩ | ⟨g, cap, h, _⟩
  · exact ⟨none, 0, by rw [h, h0]; rfl⟩
  · exact ⟨_, _, h⟩
theorem do_get {B : Nat} {F G : Nat → Prop} {bb rb : Nat} {L : List T} {rs : List (List Int)} (E : Enc L rs) (hL : ∀ u ∈ L, u.check = 0) (d : Int) : ∃ (e0 : Int) (t0 : T) (zs : List Int), t0.size ≤ 400 ∧ ∀ W : World, B ≤ W.heap.size → BankAt B F W bb L → RBk B G W rb L →
    Calls Try.prog 19 #[.pointer (some ⟨bb, 0, none⟩), .int .i64 d] W (TQ t0 e0 W) ∧ Calls Try.prog 20 #[.pointer (some ⟨rb, 0, none⟩), .int .i64 d] W (TQ t0 e0 W) ∧
    Calls Try.prog 21 #[.pointer (some ⟨bb, 0, none⟩), .int .i64 d] W (IQ zs e0 W) ∧ Calls Try.prog 22 #[.pointer (some ⟨rb, 0, none⟩), .int .i64 d] W (IQ zs e0 W) := by
  have h400 : ∀ u ∈ L, u.size ≤ 400 := fun u hu => (check_zero.1 (hL u hu)).1
  rcases chk_cases L.length d with ⟨hc, h0, hlt⟩ | ⟨hc, _⟩
  · obtain ⟨t0, ht0⟩ : ∃ t0, L[d.toNat]? = some t0 := ⟨_, List.getElem?_eq_getElem hlt⟩
    refine ⟨0, t0, idsOf L t0, h400 t0 (List.mem_of_getElem? ht0), fun W hB hb hr => ⟨(bterm_any B F bb L d W hB hb).mono fun e w' h => ?_, (refTerm_any B G rb L d W hr).mono fun e w' h => ?_, (bargs_any B F bb L d W hb).mono fun e w' h => ?_, (refArgs_any B G rb L h400 d W hr).mono fun e w' h => ?_⟩⟩
    · rcases h with ⟨_, t, a, c, h1, h2, h3, h4⟩ | ⟨h, _⟩
      · rw [ht0, Option.some.injEq] at h1
        subst h1
        exact ⟨a, c, h2, h3.toArgs (fun b hb => hb.2), h4⟩
      · omega
    · rcases h with ⟨_, t, a, c, h1, h2, h3, h4⟩ | ⟨h, _⟩
      · rw [ht0, Option.some.injEq] at h1
        subst h1
        exact ⟨a, c, h2, h3.toArgs (fun b hb => Nat.lt_of_lt_of_le hb.2 h4.size), h4⟩
      · omega
    · rcases h with ⟨_, t, a, c, h1, h2, h3, h4⟩ | ⟨h, _⟩
      · rw [ht0, Option.some.injEq] at h1
        subst h1
        exact ⟨_, h2, h3, h4⟩
      · omega
    · rcases h with ⟨_, t, v, h1, h2, h3, h4⟩ | ⟨h, _⟩
      · rw [ht0, Option.some.injEq] at h1
        subst h1
        rw [do_ids E ht0] at h3
        exact ⟨v, h2, h3, h4⟩
      · omega
  · refine ⟨6, .node 0 [], [], by decide, fun W hB hb hr => ⟨(bterm_any B F bb L d W hB hb).mono fun e w' h => ?_, (refTerm_any B G rb L d W hr).mono fun e w' h => ?_, (bargs_any B F bb L d W hb).mono fun e w' h => ?_, (refArgs_any B G rb L h400 d W hr).mono fun e w' h => ?_⟩⟩
    · rcases h with ⟨h, _⟩ | ⟨_, h2, h4⟩
      · omega
      · exact ⟨none, 0, h2, ⟨by simp [T.args], by simp [maxLen], .inl rfl⟩, h4⟩
    · rcases h with ⟨h, _⟩ | ⟨_, h2, h4⟩
      · omega
      · exact ⟨none, 0, h2, ⟨by simp [T.args], by simp [maxLen], .inl rfl⟩, h4⟩
    · rcases h with ⟨h, _⟩ | ⟨_, h2, h4⟩
      · omega
      · exact ⟨_, h2, .inl ⟨rfl, rfl⟩, h4⟩
    · rcases h with ⟨h, _⟩ | ⟨_, h2, h4⟩
      · omega
      · exact ⟨_, h2, .inl ⟨rfl, rfl⟩, h4⟩

set_option maxRecDepth 100000 in
set_option maxHeartbeats 8000000 in
theorem bankDoes_walk (s : List Stp) (a : Option Addr) (c : Nat) (w : World) (hA : IsSs w.heap.size w s a c) :
    Calls Try.prog 4 #[.slice a s.length c] w fun e w' => e = .returned (.bool true) ∧ Below w.heap.size w w' := by
  have hlc : s.length ≤ c ∧ c ≤ maxLen := ⟨hA.1, hA.2.1⟩
  unfold maxLen at hlc
  obtain ⟨hl1, hl2⟩ := hlc
  have HA := Lib.hid hA
  clear hA
  go_enter Try.func4, Try.ntmps4
  go_wp2
  go_loopw [3, 4] (fun n i wr => DoC s w n i wr) (fun _ i _ => s.length - (intOf i).toNat)
  case atStart => exact ⟨0, 0, Nat.zero_le _, rfl, rfl, by omega, by simp [stepT, T.sizes], Below.refl _ _⟩
  case round =>
    obtain ⟨k, m, hk, rfl, rfl, hm, hall, hB⟩ := hrel
    have HB := Lib.hid hB
    have HALL := Lib.hid hall
    have hbz := hB.size
    clear hB hall
    have hk0 : (0 : Int) ≤ (k : Int) := Int.natCast_nonneg _
    by_cases hgo : k < s.length ∧ m ≤ 500
    · obtain ⟨hlt, hm5⟩ := hgo
      have hk1 : (k : Int) < (s.length : Int) := by omega
      have hmi : (m : Int) ≤ 500 := by omega
      obtain ⟨b, o, wh, t, d, a', c', rfl, hbn, hs, _, htw, _, hc0, hc1, hc2, hc3, hA'⟩ := (HA.out.below HB.out).elem (i := k) hlt
      have hbw : b < wr.heap.size := by omega
      have CN := Lib.hid (count_any t.size t (Nat.le_refl _) 500 w.heap.size a' c' wr (by omega) (by omega) hA')
      have HS := Lib.hid hs
      clear hs htw hA' hc0 hc3
      go_wp2_with fail
      refine CN.out.mono ?_
      rintro e w2 ⟨rfl, hb2⟩
      have HB2 := Lib.hid (HB.out.trans (hb2.mono hbz))
      obtain ⟨q, hq⟩ : ∃ q, min t.size (500 + 1) = q := ⟨_, rfl⟩
      rw [hq]
      have hq1 : q ≤ 501 := by omega
      have HQ := Lib.hid hq
      clear hb2 hq CN
      go_wp2
      go_roundw
      case rel =>
        refine ⟨k + 1, m + q, by omega, by go_num, by go_num, by omega, fun hle => ?_, HB2.out⟩
        rw [stepT_succ HS.out]
        have := HALL.out hm5
        have := HQ.out
        show T.sizes (stepT (s.take k)) + t.size ≤ _
        omega
      case measure => simp [intOf]; omega
    · by_cases hm5 : m ≤ 500
      · obtain rfl : k = s.length := by omega
        have hmi : (m : Int) ≤ 500 := by omega
        have hall := HALL.out hm5
        rw [List.take_length] at hall
        clear hgo
        go_wp2_with fail
        refine (new_any _).mono ?_
        rintro e w1 ⟨bb, rfl, hG1, hb1⟩
        have hbx : Below w1.heap.size w1 (w1.alloc (.cells #[.slice none 0 0] 41)) := (Below.refl _ _).alloc (Nat.le_refl _) _
        have hz1 := hb1.size
        have HST := Lib.hid (show DoI s w bb w1.heap.size (.int .i64 ((0 : Nat) : Int)) (w1.alloc (.cells #[.slice none 0 0] 41)) from
          ⟨0, fun i => wr.heap.size ≤ i ∧ i < w1.heap.size, fun i => i = w1.heap.size, .slice none 0 0, [], Nat.zero_le _, rfl, (hG1.later hbx).low hbz, ⟨[], heap_alloc_new w1 _, World.ownsRow_nil _ _ _ _, trivial, rfl, fun g hg => by simp [Value.ownBlock] at hg, by omega⟩,
            fun i hi => by simp; omega, fun i hi => by subst hi; simp; omega, fun i hi e => by omega, by simp, by simp, HB.out.trans ((hb1.trans (hbx.mono hz1)).mono hbz)⟩)
        have HALL2 := Lib.hid hall
        clear hG1 hb1 hbx hall
        go_wp2
        generalize w1.alloc (.cells #[.slice none 0 0] 41) = w2 at HST ⊢
        generalize w1.heap.size = rb at HST ⊢
        clear hz1
        go_loopw [7] (fun i wr => DoI s w bb rb i wr) (fun i _ => s.length - (intOf i).toNat)
        case atStart => exact HST.out
        case round =>
          obtain ⟨k, F, G, v, L, hk, rfl, hF, hG, hFl, hGl, hFG, hL, hLl, hB⟩ := hrel
          have HF := Lib.hid hF
          have HG := Lib.hid hG
          have HFL := Lib.hid hFl
          have HGL := Lib.hid hGl
          have HFG := Lib.hid hFG
          have HL := Lib.hid hL
          have HLL := Lib.hid hLl
          have HB := Lib.hid hB
          have hbz := hB.size
          have hk0 : (0 : Int) ≤ (k : Int) := Int.natCast_nonneg _
          clear hF hG hFl hGl hFG hL hLl hB HST
          by_cases hlt : k < s.length
          · have hk1 : (k : Int) < (s.length : Int) := by omega
            obtain ⟨b, o, wh, t, d, a', c', rfl, hbn, hs, hwhw, htw, hdw, hc0, hc1, hc2, hc3, hA'⟩ := (HA.out.below HB.out).elem (i := k) hlt
            have hbw : b < wr.heap.size := by omega
            have hst := stepT_succ hs
            have hle := stepT_le (s := s) (k + 1)
            have hroom : L.length + t.size ≤ 500 := by
              have := HLL.out; have := HALL2.out
              simp only [] at hst
              omega
            have HST := Lib.hid hst
            have HA' := Lib.hid hA'
            have HTW := Lib.hid htw
            obtain ⟨wx, hwx⟩ : ∃ wx, wr.alloc (.cells #[.int .i64 wh, .int .i64 t.head, .slice a' t.args.length c', .int .i64 d] 36) = wx := ⟨_, rfl⟩
            have hbx : Below wr.heap.size wr wx := by rw [← hwx]; exact (Below.refl _ _).alloc (Nat.le_refl _) _
            have hzx : wx.heap.size = wr.heap.size + 1 := by rw [← hwx]; simp
            have x0 : wx.cell? ⟨wr.heap.size, 0, none⟩ = some (.int .i64 wh) := by rw [← hwx]; simp
            have x1 : wx.cell? ⟨wr.heap.size, 1, none⟩ = some (.int .i64 t.head) := by rw [← hwx]; simp
            have x2 : wx.cell? ⟨wr.heap.size, 2, none⟩ = some (.slice a' t.args.length c') := by rw [← hwx]; simp
            have x3 : wx.cell? ⟨wr.heap.size, 3, none⟩ = some (.int .i64 d) := by rw [← hwx]; simp
            have KX := Lib.hid (show ∀ W : World, (∀ i, i < wx.heap.size → ¬ F i → ¬ G i → W.heap[i]? = wx.heap[i]?) → W.cell? ⟨wr.heap.size, 1, none⟩ = some (.int .i64 t.head) ∧ W.cell? ⟨wr.heap.size, 2, none⟩ = some (.slice a' t.args.length c') ∧ W.cell? ⟨wr.heap.size, 3, none⟩ = some (.int .i64 d) from fun W hW => by
              have hk := hW wr.heap.size (by omega) (fun e => by have := HFL.out _ e; omega) (fun e => by have := HGL.out _ e; omega)
              exact ⟨(Mm.cell_of_block (a := ⟨wr.heap.size, 1, none⟩) hk).trans x1, (Mm.cell_of_block (a := ⟨wr.heap.size, 2, none⟩) hk).trans x2, (Mm.cell_of_block (a := ⟨wr.heap.size, 3, none⟩) hk).trans x3⟩)
            have hBx : Below w.heap.size w wx := HB.out.trans (hbx.mono hbz)
            have HBX := Lib.hid hBx
            have HBX2 := Lib.hid (hbx.mono hbz)
            have HFX := Lib.hid (HF.out.later hbx)
            have HGX := Lib.hid (HG.out.later hbx)
            have hrl : wr.heap.size < wx.heap.size := by omega
            clear hs hwhw htw hdw hA' hst hle hbx hBx
            by_cases hw0 : wh = 0
            · subst hw0
              have HDX := Lib.hid (show DoR s w bb rb k F G v L wx from ⟨HFX.out, HGX.out, fun i hi => by have := HFL.out i hi; omega, fun i hi => by have := HGL.out i hi; omega, HFG.out, HL.out, HLL.out, HBX.out⟩)
              obtain ⟨hck, hlen, x, y, hxy⟩ := do_put HL.out t (by omega)
              have CP := put_any w.heap.size F (fun i => i < w.heap.size) bb L t (by omega) a' c' wx (by omega) HFX.out (fun i hi => ⟨by omega, fun e => by have := (HFL.out i e).1; omega⟩) HTW.out (isArgsp_lt.2 (HA'.out.below HBX2.out))
              unfold PutPost at CP
              rw [hxy] at CP
              have CP' := Lib.hid CP
              have HCK := Lib.hid hck
              have HLEN := Lib.hid hlen
              have HXY := Lib.hid hxy
              clear CP hck hlen hxy
              go_wp2_with fail
              refine CP'.out.mono ?_
              rintro e wp ⟨rfl, hGp, hFp⟩
              have hzp := hFp.size
              obtain ⟨p1, p2, p3⟩ := KX.out wp (fun i hi hf _ => hFp.block i hi hf)
              have hGr := HGX.out.kept (W' := wp) (fun i hi hl => hFp.block i hl (fun e => HFG.out i e hi)) hzp
              obtain ⟨xs, r1, r2, r3, r4, r5, r6⟩ := id hGr
              have CR := refPutM_any w.heap.size G (fun i => i < w.heap.size) rb v L t (by omega) a' c' wp (fun u hu => by have := (check_zero.1 (HL.out u hu)).1; omega) (by omega) (by omega) hGr (fun i hi => by have := (HGL.out i hi).2; omega)
                (fun i hi => ⟨by omega, fun e => by have := (HGL.out rb r4).1; omega, fun e => by have := (HGL.out i (r5 i e)).1; omega⟩) HTW.out (isArgsp_lt.2 ((HA'.out.below HBX2.out).below (hFp.below (by omega) (fun i hi => (HFL.out i hi).1))))
              unfold RUPost at CR
              rw [HXY.out] at CR
              have CR' := Lib.hid CR
              have HGp := Lib.hid hGp
              have HFp := Lib.hid hFp
              clear CR CP' hGp hFp hGr r1 r2 r3 r4 r5 r6 x1 x2 x3
              go_wp2_with fail
              refine CR'.out.mono ?_
              rintro e wq ⟨rfl, v', hRq, hSq⟩
              have HD := Lib.hid (HDX.out.put HGp.out HFp.out hRq hSq HCK.out (by have h1 : T.sizes (stepT (s.take (k + 1))) = T.sizes (stepT (s.take k)) + t.size := HST.out; have := HLEN.out; have := HLL.out; omega))
              clear hRq hSq CR' p1 p2 p3
              have CSZ := Lib.hid (fun n => bsize_any (wq.drewN n) (HD.out.later (Go.below_drewN (Below.refl _ wq) n)).bank)
              obtain ⟨la, lc, hlen0⟩ := HD.out.ref.k.len
              have hrbz := HD.out.ref.k.lt
              go_wp2
              go_quiet ((go_at_call 25; exact Calls.quiet_of_same (CSZ.out _)))
              have HDF := Lib.hid ((HD.out.later (Go.below_drewN (Below.refl _ wq) nq)).toI (by omega))
              clear hlen0 hrbz
              go_wp2
              go_roundw
              case rel => exact HDF.out
              case measure => simp [intOf]; omega
            · have hne0 : (wh == 0) = false := beq_eq_false_iff_ne.2 hw0
              clear hw0
              by_cases hw1 : wh = 1
              · subst hw1
                have HDX := Lib.hid ((show DoR s w bb rb k F G v L wx from ⟨HFX.out, HGX.out, fun i hi => by have := HFL.out i hi; omega, fun i hi => by have := HGL.out i hi; omega, HFG.out, HL.out, HLL.out, HBX.out⟩).up (by have h1 : T.sizes (stepT (s.take (k + 1))) = T.sizes (stepT (s.take k)) + t.size := HST.out; omega))
                have HKX := Lib.hid (show ∀ W, Below wx.heap.size wx W → W.cell? ⟨wr.heap.size, 1, none⟩ = some (.int .i64 t.head) ∧ W.cell? ⟨wr.heap.size, 2, none⟩ = some (.slice a' t.args.length c') ∧ W.cell? ⟨wr.heap.size, 3, none⟩ = some (.int .i64 d) from fun W hW => KX.out W (fun i hi _ _ => hW.block i hi))
                have CF := find_any w.heap.size F bb L t (by omega) w.heap.size a' c' wx (by omega) HFX.out HTW.out (HA'.out.below HBX2.out)
                have CR := fun (W : World) (hW : Below wx.heap.size wx W) => refFind_any w.heap.size G rb L (fun u hu => by have := (check_zero.1 (HL.out u hu)).1; omega) t (by omega) w.heap.size a' c' W (by have := hW.size; omega) (HGX.out.k.later hW) ((HA'.out.below HBX2.out).below (hW.mono (by omega)))
                rw [do_find HL.out] at CF
                obtain ⟨x, y, hxy⟩ : ∃ (x : Int) (y : Bool), foundR (fi L t) = .tuple #[.int .i64 x, .bool y] := ⟨_, _, rfl⟩
                unfold SrPost at CF CR
                rw [hxy] at CF CR
                have CF' := Lib.hid CF
                have CR' := Lib.hid CR
                clear CF CR hxy
                go_wp2_with fail
                refine CF'.out.mono ?_
                rintro e wp ⟨rfl, hbp⟩
                obtain ⟨p1, p2, p3⟩ := HKX.out wp hbp
                have HBP := Lib.hid hbp
                have hzp := hbp.size
                have CRP := Lib.hid (CR'.out wp hbp)
                clear hbp CF' CR' x0 x1 x2 x3
                go_wp2_with fail
                refine CRP.out.mono ?_
                rintro e wq ⟨rfl, hbq⟩
                have HD := Lib.hid (HDX.out.later (HBP.out.trans (hbq.mono hzp)))
                clear hbq CRP p1 p2 p3
                have CSZ := Lib.hid (fun n => bsize_any (wq.drewN n) (HD.out.later (Go.below_drewN (Below.refl _ wq) n)).bank)
                obtain ⟨la, lc, hlen0⟩ := HD.out.ref.k.len
                have hrbz := HD.out.ref.k.lt
                go_wp2
                go_quiet ((go_at_call 25; exact Calls.quiet_of_same (CSZ.out _)))
                have HDF := Lib.hid ((HD.out.later (Go.below_drewN (Below.refl _ wq) nq)).toI (by omega))
                clear hlen0 hrbz
                go_wp2
                go_roundw
                case rel => exact HDF.out
                case measure => simp [intOf]; omega
              · have hne1 : (wh == 1) = false := beq_eq_false_iff_ne.2 hw1
                clear hw1
                have HDX := Lib.hid ((show DoR s w bb rb k F G v L wx from ⟨HFX.out, HGX.out, fun i hi => by have := HFL.out i hi; omega, fun i hi => by have := HGL.out i hi; omega, HFG.out, HL.out, HLL.out, HBX.out⟩).up (by have h1 : T.sizes (stepT (s.take (k + 1))) = T.sizes (stepT (s.take k)) + t.size := HST.out; omega))
                have HKX := Lib.hid (show ∀ W, Below wx.heap.size wx W → W.cell? ⟨wr.heap.size, 3, none⟩ = some (.int .i64 d) from fun W hW => (KX.out W (fun i hi _ _ => hW.block i hi)).2.2)
                obtain ⟨rs, hE⟩ := HFX.out.enc
                obtain ⟨e0, t0, zs, ht0, hget⟩ := do_get (B := w.heap.size) (F := F) (G := G) (bb := bb) (rb := rb) hE HL.out d
                have GET := Lib.hid (show ∀ W : World, Below wx.heap.size wx W → _ from fun W hW => hget W (by have := hW.size; omega) (HFX.out.later hW) (HGX.out.k.later hW))
                clear hE hget
                go_wp2_with fail
                refine (GET.out wx (Below.refl _ _)).1.mono ?_
                rintro e w3 ⟨a3, c3, rfl, hA3, hb3⟩
                have hb3' : Below wx.heap.size wx (w3.alloc (.cells #[.int .i64 t0.head, .slice a3 t0.args.length c3] 24)) := hb3.trans ((Below.refl _ _).alloc hb3.size _)
                have hz3 := hb3.size
                have d3 := HKX.out _ hb3'
                have HA3 := Lib.hid hA3
                have HB3 := Lib.hid hb3'
                clear hb3 hA3 hb3' x0 x1 x2 x3
                go_wp2_with fail
                refine (GET.out _ HB3.out).2.1.mono ?_
                rintro e w4 ⟨a4, c4, rfl, hA4, hb4⟩
                have hz4 := hb4.size
                have hb4' : Below wx.heap.size wx (w4.alloc (.cells #[.int .i64 t0.head, .slice a4 t0.args.length c4] 24)) := HB3.out.trans ((hb4.trans ((Below.refl _ _).alloc hb4.size _)).mono HB3.out.size)
                have hz43 : w3.heap.size + 1 ≤ w4.heap.size := by simpa using hz4
                have y0 := Mm.cell_via hb4 (p := ⟨w3.heap.size, 0, none⟩) (v := .int .i64 t0.head) (by simp) (by simp)
                have y1 := Mm.cell_via hb4 (p := ⟨w3.heap.size, 1, none⟩) (v := .slice a3 t0.args.length c3) (by simp) (by simp)
                have hA3' := HA3.out.below ((Below.refl w3.heap.size w3).alloc (Nat.le_refl _) (.cells #[.int .i64 t0.head, .slice a3 t0.args.length c3] 24))
                have hA34 := hA3'.below (hb4.mono (by simp))
                obtain ⟨wt, hwt⟩ : ∃ wt, w4.alloc (.cells #[.int .i64 t0.head, .slice a4 t0.args.length c4] 24) = wt := ⟨_, rfl⟩
                have hb4t : Below w4.heap.size w4 wt := by rw [← hwt]; exact (Below.refl _ _).alloc (Nat.le_refl _) _
                have hzt : wt.heap.size = w4.heap.size + 1 := by rw [← hwt]; simp
                have KT := Lib.hid (show ∀ W, Below wt.heap.size wt W → (W.cell? ⟨w3.heap.size, 0, none⟩ = some (.int .i64 t0.head) ∧ W.cell? ⟨w3.heap.size, 1, none⟩ = some (.slice a3 t0.args.length c3)) ∧ (W.cell? ⟨w4.heap.size, 0, none⟩ = some (.int .i64 t0.head) ∧ W.cell? ⟨w4.heap.size, 1, none⟩ = some (.slice a4 t0.args.length c4)) ∧ IsArgs W.heap.size W t0.args a3 c3 ∧ IsArgs W.heap.size W t0.args a4 c4 from fun W hW => by
                  have h4W := hb4t.trans (hW.mono hb4t.size)
                  have hzW := hW.size
                  refine ⟨⟨Mm.cell_via h4W (by simp; omega) y0, Mm.cell_via h4W (by simp; omega) y1⟩, ⟨Mm.cell_via hW (by simp; omega) (by rw [← hwt]; simp), Mm.cell_via hW (by simp; omega) (by rw [← hwt]; simp)⟩, (hA34.below (h4W.mono (by omega))).mono (by omega), (hA4.below h4W).mono (by omega)⟩)
                have HBT := Lib.hid (show Below wx.heap.size wx wt from by rw [← hwt]; exact hb4')
                have HKT := Lib.hid (show ∀ W, Below wt.heap.size wt W → W.cell? ⟨wr.heap.size, 3, none⟩ = some (.int .i64 d) from fun W hW => HKX.out W (HBT.out.trans (hW.mono HBT.out.size)))
                have GT := Lib.hid (fun (W : World) (hW : Below wt.heap.size wt W) => GET.out W (HBT.out.trans (hW.mono HBT.out.size)))
                have d4 := HKT.out wt (Below.refl _ _)
                have hwl4 : wr.heap.size < wt.heap.size := by have := HBT.out.size; omega
                clear hb4 hb4' hA4 hA3' hA34 y0 y1 hb4t GET HA3 HB3 d3
                go_wp2_with fail
                refine (GT.out wt (Below.refl _ _)).2.2.1.mono ?_
                rintro e w5 ⟨v5, rfl, hI5, hb5⟩
                obtain ⟨a5, c5, rfl⟩ := ints_slice6 hI5
                have d5 := HKT.out w5 hb5
                have HI5 := Lib.hid hI5
                have HB5 := Lib.hid hb5
                have hz5 := hb5.size
                clear hI5 hb5 hwt d4
                go_wp2_with fail
                refine (GT.out w5 HB5.out).2.2.2.mono ?_
                rintro e w6 ⟨v6, rfl, hI6, hb6⟩
                obtain ⟨a6, c6, rfl⟩ := ints_slice6 hI6
                have hb56 := HB5.out.trans (hb6.mono hz5)
                obtain ⟨⟨y0, y1⟩, ⟨y2, y3⟩, hA3, hA4⟩ := KT.out w6 hb56
                have HI56 := Lib.hid (And.intro (HI5.out.below hb6) hI6)
                have HB6 := Lib.hid hb56
                have hz6 := hb56.size
                have CSM := refSame_any t0 t0 (by omega) (by omega) w6.heap.size a3 c3 a4 c4 w6 (Nat.le_refl _) hA3 hA4
                rw [decide_eq_true (T.cmp_self t0)] at CSM
                have CSM' := Lib.hid CSM
                clear hI6 hb6 hb56 hA3 hA4 CSM d5
                go_wp2_with fail
                refine CSM'.out.mono ?_
                rintro e w7 ⟨rfl, hb7⟩
                have HB7 := Lib.hid hb7
                have hz7 := hb7.size
                have CI := Lib.hid (ints_both _ _ zs w7 (HI56.out.1.below hb7) (HI56.out.2.below hb7))
                clear hb7 CSM' y0 y1 y2 y3
                go_wp2_with fail
                refine CI.out.mono ?_
                rintro e w8 ⟨rfl, hb8⟩
                have HD := Lib.hid (HDX.out.later (HBT.out.trans ((HB6.out.trans ((HB7.out.trans (hb8.mono hz7)).mono hz6)).mono HBT.out.size)))
                clear hb8 CI
                have CSZ := Lib.hid (fun n => bsize_any (w8.drewN n) (HD.out.later (Go.below_drewN (Below.refl _ w8) n)).bank)
                obtain ⟨la, lc, hlen0⟩ := HD.out.ref.k.len
                have hrbz := HD.out.ref.k.lt
                go_wp2
                go_quiet ((go_at_call 25; exact Calls.quiet_of_same (CSZ.out _)))
                have HDF := Lib.hid ((HD.out.later (Go.below_drewN (Below.refl _ w8) nq)).toI (by omega))
                clear hlen0 hrbz
                go_wp2
                go_roundw
                case rel => exact HDF.out
                case measure => simp [intOf]; omega
          · obtain rfl : k = s.length := by omega
            have hk1 : ¬ (s.length : Int) < (s.length : Int) := by omega
            go_wp2_with fail
            refine (awake6_any _).mono ?_
            rintro e w3 ⟨rfl, hb3⟩
            have HB3 := Lib.hid hb3
            clear hb3
            go_wp2
            go_ret
            exact ⟨rfl, HB.out.trans (HB3.out.mono hbz)⟩
      · have hmi : ¬ (m : Int) ≤ 500 := by omega
        have hmi2 : (500 : Int) < (m : Int) := by omega
        by_cases hlt : k < s.length
        · have hk1 : (k : Int) < (s.length : Int) := by omega
          clear hgo
          go_wp2
          go_ret
          exact ⟨rfl, HB.out⟩
        · have hk1 : ¬ (k : Int) < (s.length : Int) := by omega
          clear hgo
          go_wp2
          go_ret
          exact ⟨rfl, HB.out⟩

end Go.Proofs.Ytkejacodofmlhaa
