/- Contract of clause's Apply. -/
import Derived.Test.YtpncmdlbmnmahaaGreatMx
import Derived.Test.YtpncmdlbmnmahaaGreatQBx
import Derived.Test.YtpncmdlbmnmahaaGreatQBu
import Derived.Laws.MakeOwn
namespace Go.Proofs.YtpncmdlbmnmahaaGreat
set_option linter.unusedVariables false
set_option linter.unusedSimpArgs false
open Go.RowKit
abbrev Z5 : Array Value := #[.bool false, .int .i64 0, .slice none 0 0, .int .i64 0, .slice none 0 0]
theorem made_zero (n : Nat) : (madeCells Z5 (n * 5)).toList = lcells (List.replicate n LV.zero) := by
  apply List.ext_getElem?
  intro j
  by_cases h : j < n * 5
  · have hx : (List.replicate n LV.zero)[j / 5]? = some LV.zero := by rw [List.getElem?_replicate, if_pos (by omega)]
    obtain ⟨g0, g1, g2, g3, g4⟩ := lcells_get hx
    have hl : (madeCells Z5 (n * 5)).toList[j]? = some (Z5[j % 5]!) := by simp [madeCells, h]
    rw [hl]
    have hm : j % 5 = 0 ∨ j % 5 = 1 ∨ j % 5 = 2 ∨ j % 5 = 3 ∨ j % 5 = 4 := by omega
    rcases hm with e | e | e | e | e
    · have hj : j = j / 5 * 5 := by omega
      rw [e, show (lcells (List.replicate n LV.zero))[j]? = (lcells (List.replicate n LV.zero))[j / 5 * 5]? from by rw [← hj], g0]; rfl
    · have hj : j = j / 5 * 5 + 1 := by omega
      rw [e, show (lcells (List.replicate n LV.zero))[j]? = (lcells (List.replicate n LV.zero))[j / 5 * 5 + 1]? from by rw [← hj], g1]; rfl
    · have hj : j = j / 5 * 5 + 2 := by omega
      rw [e, show (lcells (List.replicate n LV.zero))[j]? = (lcells (List.replicate n LV.zero))[j / 5 * 5 + 2]? from by rw [← hj], g2]; rfl
    · have hj : j = j / 5 * 5 + 3 := by omega
      rw [e, show (lcells (List.replicate n LV.zero))[j]? = (lcells (List.replicate n LV.zero))[j / 5 * 5 + 3]? from by rw [← hj], g3]; rfl
    · have hj : j = j / 5 * 5 + 4 := by omega
      rw [e, show (lcells (List.replicate n LV.zero))[j]? = (lcells (List.replicate n LV.zero))[j / 5 * 5 + 4]? from by rw [← hj], g4]; rfl
  · rw [List.getElem?_eq_none (by simp [size_madeCells]; omega), List.getElem?_eq_none (by rw [lcells_length]; simp; omega)]
theorem lcells_set5 {P : List LV} : ∀ {k : Nat} {x : LV}, k < P.length → (((((lcells P).set (k * 5) (.bool x.n)).set (k * 5 + 1) (.int .i64 x.l.head)).set (k * 5 + 2) (.slice x.pa x.l.args.length x.ca)).set (k * 5 + 3) (.int .i64 x.r.head)).set (k * 5 + 4) (.slice x.pb x.r.args.length x.cb) = lcells (P.set k x) := by
  induction P with
  | nil => intro k x h; simp at h
  | cons z P ih =>
    intro k x h
    cases k with
    | zero =>
      show ((((((z.cells ++ lcells P).set _ _).set _ _).set _ _).set _ _).set _ _) = x.cells ++ lcells P
      simp
    | succ k =>
      have := ih (k := k) (x := x) (by simpa using h)
      show (((((z.cells ++ lcells P).set _ _).set _ _).set _ _).set _ _).set _ _ = z.cells ++ lcells (P.set k x)
      rw [← this]
      have e : ∀ (L : List Value) (i : Nat) (u : Value), (z.cells ++ L).set ((k + 1) * 5 + i) u = z.cells ++ L.set (k * 5 + i) u := fun L i u => by
        rw [List.set_append_right _ _ (by simp; omega)]
        congr 2
        simp; omega
      have e0 : ∀ (L : List Value) (u : Value), (z.cells ++ L).set ((k + 1) * 5) u = z.cells ++ L.set (k * 5) u := fun L u => e L 0 u
      rw [e0, e, e, e, e]
abbrev set5 (W : World) (g o : Nat) (z : LV) : World := ((((W.setCell ⟨g, o, none⟩ (.bool z.n)).setCell ⟨g, o + 1, none⟩ (.int .i64 z.l.head)).setCell ⟨g, o + 2, none⟩ (.slice z.pa z.l.args.length z.ca)).setCell ⟨g, o + 3, none⟩ (.int .i64 z.r.head)).setCell ⟨g, o + 4, none⟩ (.slice z.pb z.r.args.length z.cb)
/-- A literal of a row of one's own is written over. -/
theorem ol_set {n₁ g n cap k : Nat} {W0 W : World} {L : List LV} {z : LV} (h : OL (okD (.slice (some ⟨g, 0, none⟩) n cap) W0) n₁ (.slice (some ⟨g, 0, none⟩) n cap) L W) (hl : L.length = n) (hk : k < n) (h0 : W0.heap.size ≤ W.heap.size) (hz : IsLvp (fun b => b < W.heap.size ∧ b ≠ g) W z) :
    OL (okD (.slice (some ⟨g, 0, none⟩) n cap) (set5 W g (k * 5) z)) n₁ (.slice (some ⟨g, 0, none⟩) n cap) (L.set k z) (set5 W g (k * 5) z) := by
  have hown := h.1
  rw [hl] at hown
  have h4 := (((((hown.stored (k * 5) (.bool z.n)).1.stored (k * 5 + 1) (.int .i64 z.l.head)).1.stored (k * 5 + 2) (.slice z.pa z.l.args.length z.ca)).1.stored (k * 5 + 3) (.int .i64 z.r.head)).1.stored (k * 5 + 4) (.slice z.pb z.r.args.length z.cb)).1
  rw [lcells_set5 (by omega)] at h4
  have hb : ∀ b, b ≠ g → (set5 W g (k * 5) z).heap[b]? = W.heap[b]? := fun b hne => by
    unfold set5
    rw [Below.heap_setCell _ _ _ _ hne, Below.heap_setCell _ _ _ _ hne, Below.heap_setCell _ _ _ _ hne, Below.heap_setCell _ _ _ _ hne, Below.heap_setCell _ _ _ _ hne]
  have hsz : (set5 W g (k * 5) z).heap.size = W.heap.size := by simp [set5]
  refine ⟨by rw [List.length_set, hl]; exact h4, fun y hy => ?_⟩
  rcases List.mem_or_eq_of_mem_set hy with hy | rfl
  · exact (h.2 y hy).keep (fun b hk => hb b (fun e => hk.2 (by rw [e]; rfl))) (fun b hk => ⟨by rw [hsz]; have := hk.1; omega, hk.2⟩)
  · exact hz.keep (fun b hk => hb b hk.2) (fun b hk => ⟨by rw [hsz]; exact hk.1, fun e => hk.2 (by simpa [Value.ownBlock] using e.symm)⟩)
def AcI (s : Sb) (P : List LV) (w : World) (v : Value) (wr : World) : Prop := ∃ (k : Nat) (Q : List LV), k ≤ P.length ∧ v = .int .i64 k ∧ Q.length = k ∧ t3s Q = (t3s (P.take k)).map (ap3 s) ∧ aks s (t3s P) = aks s ((t3s P).drop k) ∧
  OL (okD (.slice (some ⟨w.heap.size, 0, none⟩) P.length P.length) wr) w.heap.size (.slice (some ⟨w.heap.size, 0, none⟩) P.length P.length) (Q ++ List.replicate (P.length - k) LV.zero) wr ∧ Below w.heap.size w wr
theorem ac_snoc {s : Sb} {P Q : List LV} {k : Nat} {x z : LV} (h : P[k]? = some x) (hq : t3s Q = (t3s (P.take k)).map (ap3 s)) (hz : z.t3 = ap3 s x.t3) : t3s (Q ++ [z]) = (t3s (P.take (k + 1))).map (ap3 s) := by
  rw [List.take_add_one, h]
  simp only [t3s, List.map_append, Option.toList, List.map_cons, List.map_nil] at *
  rw [hq, hz]
theorem ac_set {Q : List LV} {n k : Nat} {z : LV} (hq : Q.length = k) (hk : k < n) : (Q ++ List.replicate (n - k) LV.zero).set k z = (Q ++ [z]) ++ List.replicate (n - (k + 1)) LV.zero := by
  rw [List.set_append_right _ _ (by omega), hq, Nat.sub_self, show n - k = (n - (k + 1)) + 1 from by omega, List.replicate_succ, List.set_cons_zero, List.append_assoc]
  rfl
set_option maxRecDepth 100000 in
set_option maxHeartbeats 8000000 in
theorem cApply_any (s : Sb) (hsz : ∀ x ∈ s, x.2.size ≤ 1000000000000) (P : List LV) (hps : ∀ x ∈ P, x.sz) (n₀ : Nat) (sa : Option Addr) (sc : Nat) (a : Option Addr) (c : Nat) (w : World) (hn : n₀ ≤ w.heap.size) (hS : IsBs n₀ w s sa sc) (hP : IsCl n₀ w P a c) :
    Calls Tryz.prog 19 #[.slice sa s.length sc, .slice a P.length c] w (ClEPost (acL s (t3s P)) (acE s (t3s P)) w) := by
  have hlc : P.length ≤ c ∧ c ≤ maxLen := ⟨hP.1, hP.2.1⟩
  unfold maxLen at hlc
  obtain ⟨hl1, hl2⟩ := hlc
  have HSZ := Lib.hid hsz
  have HPS := Lib.hid hps
  have HP := Lib.hid (hP.mono hn)
  have HS := Lib.hid (hS.mono hn)
  clear hP hS hsz hps
  by_cases h32 : 32 < P.length
  · have HE := Lib.hid (show acE s (t3s P) = 2 ∧ acL s (t3s P) = [] from by
      have h : acE s (t3s P) = 2 := by unfold acE; rw [if_pos (by simpa using h32)]
      exact ⟨h, ac_bad (by rw [h]; decide)⟩)
    have h32' : (32 : Int) < (P.length : Int) := by omega
    clear h32
    go_enter Tryz.func19, Tryz.ntmps19
    go_wp2
    refine bodyPost_ret (v := .tuple #[.slice none 0 0, .int .i64 2]) (by simp [results, Tryz.results19, go_sem]) rfl ?_
    exact ⟨[], none, 0, HE.out.2.symm, by rw [HE.out.1]; rfl, IsCl.nil _ _ _ (by simp [maxLen]), Below.refl _ _⟩
  have HE := Lib.hid (show acE s (t3s P) = aks s (t3s P) from by unfold acE; rw [if_neg (by simpa using h32)])
  have h32' : decide ((32 : Int) < (P.length : Int)) = false := decide_eq_false (by omega)
  have hmk : ∀ W : World, (Instr.makeSlice 23 (.int .i64 (P.length : Int)) (.int .i64 (P.length : Int))).run Tryz.prog W = .ok (.slice (some ⟨W.heap.size, 0, none⟩) P.length P.length) (W.alloc (.cells (madeCells Z5 (P.length * 5)) 44)) := fun W => by
    obtain ⟨i0, hi, hz0, hz1, hz2⟩ := info_parts infoLit
    have h := run_make (P := Tryz.prog) W 23 44 i0 _ Tryz.underlying23 hi hz0 .i64 .i64 (P.length : Int) (P.length : Int) (by omega) (by omega) (by rw [hz2]; omega) (by omega)
    rw [h, hz1, Int.toNat_natCast]
    rfl
  go_enter Tryz.func19, Tryz.ntmps19
  go_wp2
  have hown0 : OL (okD (.slice (some ⟨w.heap.size, 0, none⟩) P.length P.length) (w.alloc (.cells (madeCells Z5 (P.length * 5)) 44))) w.heap.size (.slice (some ⟨w.heap.size, 0, none⟩) P.length P.length) (List.replicate P.length LV.zero) (w.alloc (.cells (madeCells Z5 (P.length * 5)) 44)) := by
    refine ⟨⟨by rw [lcells_length], .inr ⟨w.heap.size, P.length, madeCells Z5 (P.length * 5), by simp, Nat.le_refl _, heap_alloc_new _ _, by simp, by unfold maxLen; omega, by rw [size_madeCells], ?_⟩⟩, fun y hy => ?_⟩
    · rw [List.length_replicate, List.take_of_length_le (by simp [size_madeCells]), made_zero]
    · rw [List.eq_of_mem_replicate hy]; exact lvp_zero _ _
  have HO0 := Lib.hid hown0
  have HB0 := Lib.hid (show Below w.heap.size w (w.alloc (.cells (madeCells Z5 (P.length * 5)) 44)) from (Below.refl _ _).alloc (Nat.le_refl _) _)
  generalize w.alloc (.cells (madeCells Z5 (P.length * 5)) 44) = w1 at HO0 HB0 ⊢
  clear hmk hown0
  go_loopw [18] (fun v wr => AcI s P w v wr) (fun v _ => P.length - (intOf v).toNat)
  case atStart => exact ⟨0, [], Nat.zero_le _, rfl, rfl, rfl, rfl, by simpa using HO0.out, HB0.out⟩
  case round =>
    obtain ⟨k, Q, hk, rfl, hql, hqt, hak, hO, hB⟩ := hrel
    have HO := Lib.hid hO
    have HB := Lib.hid hB
    have hbz := hB.size
    have HQ := Lib.hid (And.intro hql (And.intro hqt hak))
    clear hO hB hqt hak hql HO0 HB0
    by_cases hlt : k < P.length
    · obtain ⟨b, o, x, rfl, hb, hx, ⟨a0, a1, a2, a3, a4⟩, hxl⟩ := (HP.out.below HB.out).elem (i := k) hlt
      have hk0 : (0 : Int) ≤ (k : Int) := Int.natCast_nonneg _
      have hk1 : (k : Int) < (P.length : Int) := by omega
      have hbw : b < wr.heap.size := by omega
      have hxs := HPS.out x (List.mem_of_getElem? hx)
      obtain ⟨W2, hW2⟩ : ∃ W2, wr.alloc x.obj = W2 := ⟨_, rfl⟩
      have hs2 : W2.heap.size = wr.heap.size + 1 := by rw [← hW2]; simp
      have hF2 : Below wr.heap.size wr W2 := by rw [← hW2]; exact (Below.refl _ wr).alloc (Nat.le_refl _) _
      obtain ⟨l0, l1, l2, l3, l4⟩ := (show Later (Lc wr.heap.size x) W2 from by rw [← hW2]; exact later_lc wr x).now
      have CA := Lib.hid (litApplyF_any s HSZ.out x hxs w.heap.size sa sc W2 (by omega) (HS.out.below (HB.out.trans (hF2.mono hbz))) (hxl.below (hF2.mono hbz)))
      have HX := Lib.hid (And.intro hx (aks_drop (s := s) (t3s_get hx)))
      have HF2 := Lib.hid hF2
      clear hx hxl hF2 hxs
      go_wp2_with fail
      refine CA.out.mono ?_
      rintro e w3 ⟨z, rfl, hzn, hzl, hzr, hzp, hb3⟩
      have hz3 := hb3.size
      have hbl3 : Below wr.heap.size wr w3 := HF2.out.trans (hb3.mono HF2.out.size)
      have hO3 := HO.out.later (fun b hk => hk.1) hbl3
      have hL : (Q ++ List.replicate (P.length - k) LV.zero).length = P.length := by rw [List.length_append, HQ.out.1, List.length_replicate]; omega
      have hnew := ol_set (z := z) hO3 hL hlt hbl3.size (hzp.keep (fun _ _ => rfl) (fun b hk => ⟨hk.2, by have := hk.1; omega⟩))
      rw [ac_set HQ.out.1 hlt] at hnew
      have hcl : ∀ j, j < P.length * 5 → ∃ u, w3.cell? ⟨w.heap.size, j, none⟩ = some u := fun j hj => by
        have h := hO3.1.cells (g := w.heap.size) rfl j
        have hj2 : j < (lcells (Q ++ List.replicate (P.length - k) LV.zero)).length := by rw [lcells_length, hL]; exact hj
        have h2 := h _ (List.getElem?_eq_getElem hj2)
        rw [addr_add] at h2
        exact ⟨_, by simpa using h2⟩
      obtain ⟨s0, hs0⟩ := hcl (k * 5) (by omega)
      obtain ⟨s1, hs1⟩ := hcl (k * 5 + 1) (by omega)
      obtain ⟨s2, hs2'⟩ := hcl (k * 5 + 2) (by omega)
      obtain ⟨s3, hs3⟩ := hcl (k * 5 + 3) (by omega)
      obtain ⟨s4, hs4⟩ := hcl (k * 5 + 4) (by omega)
      have hfz := hO3.1
      rw [hL] at hfz
      have fz : ∀ j, w3.frozen? ⟨w.heap.size, j, none⟩ = false := fun j => hfz.frozenAt j
      have HNEW := Lib.hid hnew
      have HBN := Lib.hid (show Below w.heap.size w (set5 w3 w.heap.size (k * 5) z) from
        (((((HB.out.trans (hbl3.mono hbz)).setCell (p := ⟨w.heap.size, _, none⟩) (Nat.le_refl _) _).setCell (p := ⟨w.heap.size, _, none⟩) (Nat.le_refl _) _).setCell (p := ⟨w.heap.size, _, none⟩) (Nat.le_refl _) _).setCell (p := ⟨w.heap.size, _, none⟩) (Nat.le_refl _) _).setCell (p := ⟨w.heap.size, _, none⟩) (Nat.le_refl _) _)
      have HZ := Lib.hid (And.intro hzn (And.intro hzl hzr))
      clear hzn hzl hzr hzp hb3 hbl3 hO3 hnew hcl hfz CA l0 l1 l2 l3 l4 a0 a1 a2 a3 a4 hW2
      by_cases h0 : apK s x = 0
      · have HA := Lib.hid (ap_ok h0)
        rw [h0]
        clear h0
        go_wp2_with fail
        go_roundw
        case rel =>
          refine ⟨k + 1, Q ++ [z], by omega, by go_num, by simp [HQ.out.1], ac_snoc HX.out.1 HQ.out.2.1 ?_, ?_, HNEW.out, HBN.out⟩
          · show Lt3.mk z.n z.l z.r = _
            rw [HZ.out.1, HZ.out.2.1, HZ.out.2.2, HA.out.1, HA.out.2.1, HA.out.2.2.1]; rfl
          · rw [HQ.out.2.2, HX.out.2, if_neg (fun e => e (HA.out.2.2.2))]
        case measure => simp [intOf]; omega
      · have HR := Lib.hid (show acE s (t3s P) = apK s x ∧ acL s (t3s P) = [] from by
          have h : acE s (t3s P) = apK s x := by rw [HE.out, HQ.out.2.2, HX.out.2, if_pos (by rw [← apK_ak]; exact h0)]; rfl
          exact ⟨h, ac_bad (by rw [h]; exact h0)⟩)
        obtain ⟨m, hm⟩ : ∃ m, apK s x = m := ⟨_, rfl⟩
        rw [hm] at h0 HR ⊢
        have h2 : (m != 0) = true := by simpa using h0
        clear h0 hm
        go_wp2_with fail
        refine bodyPost_ret (v := .tuple #[.slice none 0 0, .int .i64 m]) (by simp [results, Tryz.results19, go_sem]) rfl ?_
        exact ⟨[], none, 0, HR.out.2.symm, by rw [HR.out.1]; rfl, IsCl.nil _ _ _ (by simp [maxLen]), HBN.out⟩
    · obtain rfl : k = P.length := by omega
      have HR := Lib.hid (show acE s (t3s P) = 0 ∧ acL s (t3s P) = t3s Q from by
        have h : acE s (t3s P) = 0 := by rw [HE.out, HQ.out.2.2, List.drop_of_length_le (by simp)]; rfl
        refine ⟨h, ?_⟩
        rw [(ac_ok h).2.2, HQ.out.2.1, List.take_length])
      have hO := HO.out
      rw [Nat.sub_self, List.replicate_zero, List.append_nil] at hO
      obtain ⟨pa, ca, e, hcl⟩ := hO.args (fun b hk => hk.1)
      rw [HQ.out.1] at e
      have HR2 := Lib.hid (And.intro e hcl)
      clear hO e hcl
      go_wp2
      refine bodyPost_ret (v := .tuple #[.slice (some ⟨w.heap.size, 0, none⟩) P.length P.length, .int .i64 0]) (by simp [results, Tryz.results19, go_sem]) rfl ?_
      exact ⟨Q, pa, ca, HR.out.2.symm, by rw [HR.out.1, HR2.out.1, HQ.out.1], HR2.out.2, HB.out⟩
end Go.Proofs.YtpncmdlbmnmahaaGreat
