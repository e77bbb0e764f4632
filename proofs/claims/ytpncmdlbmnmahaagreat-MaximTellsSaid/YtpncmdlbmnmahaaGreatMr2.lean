/- Contract of the document's Apply of clauses. -/
import Derived.Test.YtpncmdlbmnmahaaGreatMm2
import Derived.Test.YtpncmdlbmnmahaaGreatRLf
import Derived.OwnWalk
namespace Go.Proofs.YtpncmdlbmnmahaaGreat
set_option linter.unusedVariables false
set_option linter.unusedSimpArgs false
open Go.RowKit
def AkI (s : Sb) (P : List LV) (w : World) (ov v : Value) (wr : World) : Prop := ∃ (k : Nat) (Q : List LV), k ≤ P.length ∧ v = .int .i64 k ∧ Q.length = k ∧ t3s Q = (t3s (P.take k)).map (ap3 s) ∧ aks s (t3s P) = aks s ((t3s P).drop k) ∧
  OL (okD ov wr) w.heap.size ov Q wr ∧ Below w.heap.size w wr
set_option maxRecDepth 100000 in
set_option maxHeartbeats 8000000 in
theorem rApply10_any (s : Sb) (hsz : ∀ x ∈ s, x.2.size ≤ 1000000000000) (P : List LV) (hps : ∀ x ∈ P, x.sz) (n₀ : Nat) (sa : Option Addr) (sc : Nat) (a : Option Addr) (c : Nat) (w : World) (hn : n₀ ≤ w.heap.size) (hS : IsBs n₀ w s sa sc) (hP : IsCl n₀ w P a c) :
    Calls Tryz.prog 30 #[.slice sa s.length sc, .slice a P.length c] w (ClEPost (acL s (t3s P)) (acE s (t3s P)) w) := by
  have hlc : P.length ≤ c ∧ c ≤ maxLen := ⟨hP.1, hP.2.1⟩
  unfold maxLen at hlc
  obtain ⟨hl1, hl2⟩ := hlc
  have HSZ := Lib.hid hsz
  have HPS := Lib.hid hps
  have HP := Lib.hid (hP.mono hn)
  have HS := Lib.hid (hS.mono hn)
  clear hP hS hsz hps
  by_cases h32 : 32 < P.length
  · have HE := Lib.hid (show acE s (t3s P) = 2 ∧ acL s (t3s P) = [] from by
      have h : acE s (t3s P) = 2 := by unfold acE; rw [if_pos (by simpa using h32)]
      exact ⟨h, ac_bad (by rw [h]; decide)⟩)
    have h32' : (32 : Int) < (P.length : Int) := by omega
    clear h32
    go_enter Tryz.func30, Tryz.ntmps30
    go_wp2
    refine bodyPost_ret (v := .tuple #[.slice none 0 0, .int .i64 2]) (by simp [results, Tryz.results30, go_sem]) rfl ?_
    exact ⟨[], none, 0, HE.out.2.symm, by rw [HE.out.1]; rfl, IsCl.nil _ _ _ (by simp [maxLen]), Below.refl _ _⟩
  have HE := Lib.hid (show acE s (t3s P) = aks s (t3s P) from by unfold acE; rw [if_neg (by simpa using h32)])
  have h32' : decide ((32 : Int) < (P.length : Int)) = false := decide_eq_false (by omega)
  go_enter Tryz.func30, Tryz.ntmps30
  go_wp2
  go_loopw [6, 7] (fun ov v wr => AkI s P w ov v wr) (fun _ v _ => P.length - (intOf v).toNat)
  case atStart => exact ⟨0, [], Nat.zero_le _, rfl, rfl, rfl, rfl, OL.nil _ _ _, Below.refl _ _⟩
  case round =>
    obtain ⟨k, Q, hk, rfl, hql, hqt, hak, hO, hB⟩ := hrel
    have HO := Lib.hid hO
    have HB := Lib.hid hB
    have hbz := hB.size
    have HQ := Lib.hid (And.intro hql (And.intro hqt hak))
    clear hO hB hqt hak hql
    by_cases hlt : k < P.length
    · obtain ⟨b, o, x, rfl, hb, hx, ⟨a0, a1, a2, a3, a4⟩, hxl⟩ := (HP.out.below HB.out).elem (i := k) hlt
      have hk0 : (0 : Int) ≤ (k : Int) := Int.natCast_nonneg _
      have hk1 : (k : Int) < (P.length : Int) := by omega
      have hxs := HPS.out x (List.mem_of_getElem? hx)
      have CA := Lib.hid (rLitApplyF_any s HSZ.out x hxs w.heap.size sa sc wr hbz (HS.out.below HB.out) hxl)
      have HX := Lib.hid (And.intro hx (aks_drop (s := s) (t3s_get hx)))
      clear hx hxl hxs
      go_wp2_with fail
      refine CA.out.mono ?_
      rintro e w3 ⟨z, rfl, hzn, hzl, hzr, hzp, hb3⟩
      have hz3 := hb3.size
      have HZ := Lib.hid (And.intro hzn (And.intro hzl hzr))
      obtain ⟨W4, hW4⟩ : ∃ W4, w3.alloc z.obj = W4 := ⟨_, rfl⟩
      have hs4 : W4.heap.size = w3.heap.size + 1 := by rw [← hW4]; simp
      have hF4 : Below w3.heap.size w3 W4 := by rw [← hW4]; exact (Below.refl _ w3).alloc (Nat.le_refl _) _
      obtain ⟨l0, l1, l2, l3, l4⟩ := (show Later (Lc w3.heap.size z) W4 from by rw [← hW4]; exact later_lc w3 z).now
      have HB4 := Lib.hid (show Below wr.heap.size wr W4 from hb3.trans (hF4.mono hz3))
      have HZP := Lib.hid hzp
      clear hzn hzl hzr hzp CA a0 a1 a2 a3 a4
      by_cases h0 : apK s x = 0
      · have HA := Lib.hid (ap_ok h0)
        rw [h0]
        clear h0
        obtain ⟨W5, hW5⟩ : ∃ W5, W4.alloc z.obj = W5 := ⟨_, rfl⟩
        have hs5 : W5.heap.size = W4.heap.size + 1 := by rw [← hW5]; simp
        have hF5 : Below W4.heap.size W4 W5 := by rw [← hW5]; exact (Below.refl _ W4).alloc (Nat.le_refl _) _
        obtain ⟨y0, y1, y2, y3, y4⟩ := (show Later (Lc W4.heap.size z) W5 from by rw [← hW5]; exact later_lc W4 z).now
        have HS5 := Lib.hid (show SrcL W5 [z] (some ⟨w3.heap.size + 1, 0, none⟩) 1 from by
          rw [← hs4]
          exact SrcL.of_one ⟨y0, by simpa using y1, by simpa using y2, by simpa using y3, by simpa using y4⟩)
        have hB5 : Below wr.heap.size wr W5 := HB4.out.trans (hF5.mono HB4.out.size)
        have h35 : Below w3.heap.size w3 W5 := hF4.trans (hF5.mono hF4.size)
        have HO5 := Lib.hid (show OL (okD u6 W5) w.heap.size u6 Q W5 from (HO.out.later (fun b hk => hk.1) hB5).kept (fun _ _ => rfl) (fun _ _ => rfl) (fun b hk => ⟨by have := hk.1; have := hB5.size; omega, hk.2⟩))
        have HZ5 := Lib.hid (show IsLvp (okD u6 W5) W5 z from HZP.out.keep (fun b hk => h35.block b hk.2) (fun b hk => ⟨by have := hk.2; omega, fun e => by have h1 := hk.1; have h2 := HO.out.block e; omega⟩))
        have HB5 := Lib.hid (HB.out.trans (hB5.mono hbz))
        clear hB5 h35 hF5 hF4 hb3 y0 y1 y2 y3 y4 HZP
        go_wp2_with (at_builtin; refine stopHere ?_)
        refine Lib.hid ?_
        refine wpList_append_ls rfl _ _ rfl (okD u6 W5) w.heap.size u6 Q rfl HO5.out HB5.out.size [z] (some ⟨w3.heap.size + 1, 0, none⟩) 1 rfl HS5.out (by simp [HQ.out.1]; omega) ?_
        intro v8 w8 hown8 hg8 hv8
        have HO8 := Lib.hid (show OL (okD v8 w8) w.heap.size v8 (Q ++ [z]) w8 from
          (HO5.out.append hown8 hg8 (fun b hb => hb) (fun y hy => by simp at hy; subst hy; exact HZ5.out)).kept (fun _ _ => rfl) (fun _ _ => rfl) (fun b hk => ⟨by have := hk.1; have := hg8.size; omega, fun e => by
            rcases hv8 with h | h
            · exact hk.2 (h ▸ e)
            · rw [h] at e; cases e; have := hk.1; omega⟩))
        have HB8 := Lib.hid (show Below w.heap.size w w8 from HB5.out.trans ((Below.refl w.heap.size _).grown hg8 HB5.out.size (fun q hq => (HO5.out.block hq).1)))
        clear hown8 hg8 hv8 HS5 l0 l1 l2 l3 l4 hW4 hW5
        go_wp2
        go_roundw
        case rel =>
          refine ⟨k + 1, Q ++ [z], by omega, by go_num, by simp [HQ.out.1], ac_snoc HX.out.1 HQ.out.2.1 ?_, ?_, HO8.out, HB8.out⟩
          · show Lt3.mk z.n z.l z.r = _
            rw [HZ.out.1, HZ.out.2.1, HZ.out.2.2, HA.out.1, HA.out.2.1, HA.out.2.2.1]; rfl
          · rw [HQ.out.2.2, HX.out.2, if_neg (fun e => e (HA.out.2.2.2))]
        case measure => simp [intOf]; omega
      · have HR := Lib.hid (show acE s (t3s P) = apK s x ∧ acL s (t3s P) = [] from by
          have h : acE s (t3s P) = apK s x := by rw [HE.out, HQ.out.2.2, HX.out.2, if_pos (by rw [← apK_ak]; exact h0)]; rfl
          exact ⟨h, ac_bad (by rw [h]; exact h0)⟩)
        obtain ⟨m, hm⟩ : ∃ m, apK s x = m := ⟨_, rfl⟩
        rw [hm] at h0 HR ⊢
        have h2 : (m != 0) = true := by simpa using h0
        have HBF := Lib.hid (HB.out.trans (HB4.out.mono hbz))
        clear h0 hm hF4 hb3
        go_wp2_with fail
        refine bodyPost_ret (v := .tuple #[.slice none 0 0, .int .i64 m]) (by simp [results, Tryz.results30, go_sem]) rfl ?_
        exact ⟨[], none, 0, HR.out.2.symm, by rw [HR.out.1]; rfl, IsCl.nil _ _ _ (by simp [maxLen]), HBF.out⟩
    · obtain rfl : k = P.length := by omega
      have HR := Lib.hid (show acE s (t3s P) = 0 ∧ acL s (t3s P) = t3s Q from by
        have h : acE s (t3s P) = 0 := by rw [HE.out, HQ.out.2.2, List.drop_of_length_le (by simp)]; rfl
        refine ⟨h, ?_⟩
        rw [(ac_ok h).2.2, HQ.out.2.1, List.take_length])
      obtain ⟨pa, ca, rfl, hcl⟩ := HO.out.args (fun b hk => hk.1)
      have HR2 := Lib.hid hcl
      clear hcl
      go_wp2
      refine bodyPost_ret (v := .tuple #[.slice pa Q.length ca, .int .i64 0]) (by simp [results, Tryz.results30, go_sem]) rfl ?_
      exact ⟨Q, pa, ca, HR.out.2.symm, by rw [HR.out.1], HR2.out, HB.out⟩
end Go.Proofs.YtpncmdlbmnmahaaGreat
