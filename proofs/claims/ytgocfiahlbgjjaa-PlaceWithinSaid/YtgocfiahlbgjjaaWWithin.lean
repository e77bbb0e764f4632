/- The walk of PlaceWithin. -/
import Derived.Test.YtgocfiahlbgjjaaWPut
import Derived.Laws.AppendOwnNone
namespace Go.Proofs.Ytgocfiahlbgjjaa
set_option linter.unusedVariables false
set_option linter.unusedSimpArgs false
open Go.RowKit

theorem T.sizes_modify {k : Nat} {f : T → T} (hf : ∀ x : T, (f x).size ≤ x.size + k) : ∀ (ts : List T) (n : Nat), T.sizes (ts.modify n f) ≤ T.sizes ts + k
  | [], n => by simp [T.sizes]
  | t :: ts, 0 => by simp only [List.modify_zero_cons, T.sizes]; have := hf t; omega
  | t :: ts, n + 1 => by simp only [List.modify_succ_cons, T.sizes]; have := T.sizes_modify hf ts n; omega
theorem T.put_size (u : T) : ∀ (p : List Int) (t : T), (t.put u p).size ≤ t.size + u.size
  | [], t => by simp only [T.put]; omega
  | i :: p, t => by
    simp only [T.put, T.size]
    have h1 := T.sizes_modify (k := u.size) (f := fun s => s.put u p) (fun x => T.put_size u p x) t.args i.toNat
    have h2 := T.size_eq t
    omega

theorem isIs_of_owns {base : Nat} {W : World} {v : Value} {p : List Int} (h : W.ownsRow base 3 1 v p.length (p.map (Value.int .i64))) : ∃ a c, v = .slice a p.length c ∧ IsIs W.heap.size W p a c := by
  have hcells := fun g hg => h.cells (g := g) hg
  rcases h.2 with ⟨rfl, h0⟩ | ⟨g, cap, cur, rfl, hg, hh, hn, hc, _⟩
  · exact ⟨none, 0, by rw [h0], by omega, by simp [maxLen], .inl (List.eq_nil_of_length_eq_zero h0)⟩
  · refine ⟨_, cap, rfl, hn, hc, .inr ⟨g, 0, rfl, (Array.getElem?_eq_some_iff.1 hh).1, fun j z hz => ?_⟩⟩
    have := hcells g rfl j (.int .i64 z) (by simp [hz])
    rw [addr_add] at this
    simpa using this

/-- append(v, zs...), where v is a row of one's own. -/
theorem wpList_append_is {w : World} {ops : Array Oper} {rest : List Oper} {o : Oper} {a : Act} {Q : Exit → Act → World → Prop} (hgd : o.guard = none) (s x : Operand)
    (ho : o.op = .call { callee := .builtin .append, args := #[s, x], argTypes := #[35, 35] }) (base : Nat) (v : Value) (n : Nat) (xs : List Value) (hs : a.eval s = v) (hown : w.ownsRow base 3 1 v n xs)
    (zs : List Int) (a' : Option Addr) (c' : Nat) (n₀ : Nat) (hx : a.eval x = .slice a' zs.length c') (hI : IsIs n₀ w zs a' c') (hnil : a' = none → c' = 0) (hl : n + zs.length ≤ 1000000) (hbase : base ≤ w.heap.size)
    (h : ∀ v' w', w'.ownsRow base 3 1 v' (n + zs.length) (xs ++ zs.map (Value.int .i64)) → w.grownBy w' v.ownBlock → wpList Try.prog ops Q rest (a.put o.dst v') w') : wpList Try.prog ops Q (o :: rest) a w := by
  obtain ⟨i0, hi, hz0, hz1, hz2⟩ := info_parts info3
  cases a' with
  | none =>
    obtain rfl := hnil rfl
    have h0 : zs = [] := by rcases hI.2.2 with h | ⟨_, _, h, _⟩; exact h; cases h
    subst h0
    refine wpList_append_own_none hgd s x 35 ho base 3 i0 1 Try.underlying35 hi v n xs hs hown hx ?_
    exact h v w (by simpa using hown) ⟨rfl, rfl, rfl, Nat.le_refl _, fun _ _ _ => rfl⟩
  | some ad =>
    refine wpList_append_own w hgd s x 35 ho base 3 i0 (.int .i64 0) 1 8 Try.underlying35 hi hz0 hz1 hz2 rfl (by decide) v n xs hs hown ad zs.length c' (zs.map (Value.int .i64)) hx (by simp) (fun j u hj => ?_) (by intro u hu; obtain ⟨z, _, rfl⟩ := List.mem_map.1 hu; rfl) (by unfold maxLen; omega) (by omega) hbase (fun v' w' h1 h2 _ => h v' w' h1 h2)
    rw [List.getElem?_map, Option.map_eq_some_iff] at hj
    obtain ⟨z, hz, rfl⟩ := hj
    rcases hI.2.2 with rfl | ⟨b, o', e, _, h6⟩
    · simp at hz
    · cases e
      rw [addr_add]
      exact h6 j z hz

set_option maxRecDepth 100000 in
set_option maxHeartbeats 4000000 in
theorem placeWithin_walk (t : T) (p q : List Int) (u : T) (a : Option Addr) (c : Nat) (ap : Option Addr) (cp : Nat) (aq : Option Addr) (cq : Nat) (au : Option Addr) (cu : Nat) (w : World) (htw : (Lit.int .i64 t.head).wf = true) (huw : (Lit.int .i64 u.head).wf = true) (hA : IsArgs w.heap.size w t.args a c) (hP : IsIs w.heap.size w p ap cp) (hQ : IsIs w.heap.size w q aq cq) (hU : IsArgs w.heap.size w u.args au cu) (hpn : ap = none → cp = 0) (hqn : aq = none → cq = 0) :
    Calls Try.prog 11 #[tm t.head a t.args.length c, .slice ap p.length cp, .slice aq q.length cq, tm u.head au u.args.length cu] w fun e w' => e = .returned (.bool true) ∧ Below w.heap.size w w' := by
  have HTW := Lib.hid htw
  have HUW := Lib.hid huw
  have hp1 : p.length ≤ cp ∧ cp ≤ maxLen := ⟨hP.1, hP.2.1⟩
  have hq1 : q.length ≤ cq ∧ cq ≤ maxLen := ⟨hQ.1, hQ.2.1⟩
  have HPL := Lib.hid hp1
  have HQL := Lib.hid hq1
  have HPN := Lib.hid hpn
  have HQN := Lib.hid hqn
  have E := Lib.hid (putE_of hA hU hP hQ)
  clear htw huw hA hP hQ hU hp1 hq1 hpn hqn
  go_enter Try.func11, Try.ntmps11
  go_wp2_with fail
  generalize (w.alloc (tmCells t.head a t.args.length c)).alloc (tmCells u.head au u.args.length cu) = wB at E ⊢
  have e0 := E.out wB (Below.refl _ _)
  refine (few2_any t p wB.heap.size a c ap cp wB (Nat.le_refl _) e0.tA HPL.out.1 HPL.out.2).mono ?_
  rintro e w1 ⟨rfl, hb⟩
  clear e0
  have hfew : (decide (t.size ≤ 500) && decide (p.length ≤ 100)) = true → t.size ≤ 500 ∧ p.length ≤ 100 := by intro h; simpa using h
  generalize (decide (t.size ≤ 500) && decide (p.length ≤ 100)) = f1 at hfew ⊢
  cases f1
  case false =>
    have HQ := Lib.hid (E.out w1 hb).below
    clear hb hfew
    go_wp2
    go_ret
    exact ⟨rfl, HQ.out⟩
  obtain ⟨hts, hpl⟩ := hfew rfl
  clear hfew
  have HQ := Lib.hid hb
  obtain ⟨t0, t1, u0, u1, _, _, _, _, _⟩ := E.out w1 hb
  clear hb
  go_wp2_with fail
  have e1 := E.out w1 HQ.out
  clear t0 t1 u0 u1
  refine (few2_any u q w1.heap.size au cu aq cq w1 (Nat.le_refl _) e1.uA HQL.out.1 HQL.out.2).mono ?_
  rintro e w2 ⟨rfl, hb⟩
  clear e1
  have hb := HQ.out.trans (hb.mono HQ.out.size)
  have hfew : (decide (u.size ≤ 500) && decide (q.length ≤ 100)) = true → u.size ≤ 500 ∧ q.length ≤ 100 := by intro h; simpa using h
  generalize (decide (u.size ≤ 500) && decide (q.length ≤ 100)) = f2 at hfew ⊢
  clear HQ
  cases f2
  case false =>
    have HQ := Lib.hid (E.out w2 hb).below
    clear hb hfew
    go_wp2
    go_ret
    exact ⟨rfl, HQ.out⟩
  obtain ⟨hus, hql⟩ := hfew rfl
  clear hfew
  have HQ := Lib.hid hb
  clear hb
  go_wp2_with (at_builtin; refine stopHere ?_)
  refine Lib.hid ?_
  refine wpList_append_is rfl _ _ rfl w2.heap.size (.slice none 0 0) 0 [] rfl (World.ownsRow_nil _ _ _ _) p ap cp w2.heap.size rfl (E.out w2 HQ.out).pI HPN.out (by omega) (Nat.le_refl _) ?_
  intro v1 w3 hown hgr
  have hb3 : Below w2.heap.size w2 w3 := (Below.refl _ _).grown hgr (Nat.le_refl _) (fun k hk => by cases hk)
  have HO := Lib.hid hown
  have HB3 := Lib.hid (HQ.out.trans (hb3.mono HQ.out.size))
  have HB23 := Lib.hid hb3
  clear hown hgr hb3
  go_wp2_with (at_builtin; refine stopHere ?_)
  refine Lib.hid ?_
  refine wpList_append_is rfl _ _ rfl w2.heap.size v1 (0 + p.length) ([] ++ p.map (Value.int .i64)) rfl HO.out q aq cq w3.heap.size rfl (E.out w3 HB3.out).qI HQN.out (by omega) HB23.out.size ?_
  intro v2 w4 hown hgr
  have hb4 : Below w2.heap.size w2 w4 := HB23.out.grown hgr HB23.out.size (fun k hk => (HO.out.lt k hk).1)
  have hown' : w4.ownsRow w2.heap.size 3 1 v2 (p ++ q).length ((p ++ q).map (Value.int .i64)) := by simpa using hown
  obtain ⟨ar, cr, rfl, hR⟩ := isIs_of_owns hown'
  have HB4 := Lib.hid (HQ.out.trans (hb4.mono HQ.out.size))
  have HR := Lib.hid hR
  clear hown hown' hgr hb4 hR HO HB3 HB23 HQ
  have E1 := Lib.hid (show ∀ W, Below w4.heap.size w4 W → Below wB.heap.size wB W ∧ IsIs W.heap.size W (p ++ q) ar cr from fun W hW => ⟨HB4.out.trans (hW.mono HB4.out.size), (HR.out.below hW).mono hW.size⟩)
  obtain ⟨t0, t1, _, _, _, _, _, _, _⟩ := E.out w4 HB4.out
  clear HR
  generalize hpq : (p ++ q).length = npq at *
  have HNPQ := Lib.hid hpq
  clear hpq
  go_wp2_with fail
  clear t0 t1
  have e2 := E.out w4 HB4.out
  refine (at_any t p w4.heap.size a c ap cp w4 (Nat.le_refl _) HTW.out e2.tA e2.pI).mono ?_
  clear e2
  rintro e w5 (⟨s, asx, cs, hat, rfl, hsw, hsA, hb⟩ | ⟨hat, rfl, hb⟩)
  case inr =>
    have HB := Lib.hid (show Below wB.heap.size wB (w5.alloc (tmCells 0 none 0 0)) from by
      have h := HB4.out.trans (hb.mono HB4.out.size)
      exact h.alloc h.size _)
    clear hb hat
    go_wp2_with fail
    refine (awake2_any _).mono ?_
    rintro e w8 ⟨rfl, hb⟩
    have HW8 := Lib.hid (E.out w8 (HB.out.trans (hb.mono HB.out.size))).below
    clear hb
    go_wp2
    go_ret
    exact ⟨by simp, HW8.out⟩
  have hss := T.at_size hat
  have HSW := Lib.hid hsw
  have HAT := Lib.hid hat
  have E2 := Lib.hid (var_term hb s asx cs (hsA.mono hb.size))
  have HB2 := Lib.hid (show Below w4.heap.size w4 (w5.alloc (tmCells s.head asx s.args.length cs)) from hb.alloc hb.size _)
  clear hat hsw hsA hb
  obtain ⟨s0, s1, _, _⟩ := E2.out _ (Below.refl _ _)
  go_wp2_with fail
  clear s0 s1
  generalize w5.alloc (tmCells s.head asx s.args.length cs) = w6 at HB2 E2 ⊢
  generalize w5.heap.size = bs at E2 ⊢
  have HAPP := Lib.hid (show t.at (p ++ q) = s.at q from by rw [T.at_append, HAT.out]; rfl)
  have HPUT := Lib.hid (show t.put u (p ++ q) = t.put (s.put u q) p from T.put_append u q HAT.out)
  have e2 := E.out w6 (E1.out w6 HB2.out).1
  refine (at_any s q w6.heap.size asx cs aq cq w6 (Nat.le_refl _) HSW.out (E2.out w6 (Below.refl _ _)).2.2.2 e2.qI).mono ?_
  clear e2
  rintro e w7 h7
  rcases h7 with h7 | h7
  · obtain ⟨r, ab, cb, hat, rfl, hrw, hrA, hb⟩ := h7
    have hrs := T.at_size hat
    have HRQ := Lib.hid hat
    have E3 := Lib.hid (var_term hb r ab cb (hrA.mono hb.size))
    have HB3 := Lib.hid (show Below w6.heap.size w6 (w7.alloc (tmCells r.head ab r.args.length cb)) from hb.alloc hb.size _)
    clear hat hrw hrA hb
    obtain ⟨t0, t1, _, _, _, _, _, _, _⟩ := E.out _ (E1.out _ (E2.out _ HB3.out).2.2.1).1
    go_wp2_with fail
    clear t0 t1
    generalize w7.alloc (tmCells r.head ab r.args.length cb) = w8 at HB3 E3 ⊢
    generalize w7.heap.size = bb at E3 ⊢
    have k4 := (E2.out w8 HB3.out).2.2.1
    have e2 := E.out w8 (E1.out w8 k4).1
    have hIpq := (E1.out w8 k4).2
    have hcall := at_any t (p ++ q) w8.heap.size a c ar cr w8 (Nat.le_refl _) HTW.out e2.tA hIpq
    rw [HNPQ.out] at hcall
    refine hcall.mono ?_
    clear e2 k4 hIpq hcall
    rintro e w9 (⟨r', ac, cc, hat, rfl, hcw, hcA, hb⟩ | ⟨hno, _⟩)
    case inr => rw [HAPP.out, HRQ.out] at hno; cases hno
    obtain rfl : r = r' := by rw [HAPP.out, HRQ.out] at hat; exact Option.some.inj hat
    have E4 := Lib.hid (var_term hb r ac cc (hcA.mono hb.size))
    have HB4' := Lib.hid (show Below w8.heap.size w8 (w9.alloc (tmCells r.head ac r.args.length cc)) from hb.alloc hb.size _)
    clear hat hcw hcA hb
    have KEY := Lib.hid (show ∀ W, Below (w9.alloc (tmCells r.head ac r.args.length cc)).heap.size (w9.alloc (tmCells r.head ac r.args.length cc)) W → Below w8.heap.size w8 W ∧ Below w6.heap.size w6 W ∧ Below w4.heap.size w4 W ∧ Below wB.heap.size wB W from fun W hW => by
      have h8 := (E4.out W hW).2.2.1
      have h6 := (E3.out W h8).2.2.1
      have h4 := (E2.out W h6).2.2.1
      exact ⟨h8, h6, h4, (E1.out W h4).1⟩)
    obtain ⟨k8, k6, k4, kB⟩ := KEY.out _ (Below.refl _ _)
    obtain ⟨s0, s1, _, _⟩ := E2.out _ k6
    obtain ⟨_, _, u0, u1, _, _, _, _, _⟩ := E.out _ kB
    clear k8 k6 k4 kB
    go_wp2_with fail
    clear s0 s1 u0 u1
    generalize w9.alloc (tmCells r.head ac r.args.length cc) = w10 at E4 KEY HB4' ⊢
    generalize w9.heap.size = bc at E4 ⊢
    obtain ⟨k8, k6, k4, kB⟩ := KEY.out w10 (Below.refl _ _)
    have e2 := E.out w10 kB
    refine (put_any s (by omega) q u w10.heap.size asx cs aq cq au cu w10 (Nat.le_refl _) HSW.out (E2.out w10 k6).2.2.2 e2.qI HUW.out e2.uA).mono ?_
    clear k8 k6 k4 kB e2
    rintro e w11 (⟨r', av, cv, _, rfl, hvw, hvA, hb⟩ | ⟨hno, _⟩)
    case inr => rw [HRQ.out] at hno; cases hno
    have HVW := Lib.hid hvw
    have E5 := Lib.hid (var_term hb (s.put u q) av cv hvA)
    have HB5 := Lib.hid (show Below w10.heap.size w10 (w11.alloc (tmCells (s.put u q).head av (s.put u q).args.length cv)) from hb.alloc hb.size _)
    clear hvw hvA hb
    obtain ⟨k8, k6, k4, kB⟩ := KEY.out _ HB5.out
    obtain ⟨t0, t1, u0, u1, _, _, _, _, _⟩ := E.out _ kB
    clear k8 k6 k4 kB
    go_wp2_with fail
    clear t0 t1 u0 u1
    generalize w11.alloc (tmCells (s.put u q).head av (s.put u q).args.length cv) = w12 at HB5 E5 ⊢
    generalize w11.heap.size = bv at E5 ⊢
    obtain ⟨k8, k6, k4, kB⟩ := KEY.out w12 HB5.out
    have e2 := E.out w12 kB
    have hIpq := (E1.out w12 k4).2
    have hcall := put_any t (by omega) (p ++ q) u w12.heap.size a c ar cr au cu w12 (Nat.le_refl _) HTW.out e2.tA hIpq HUW.out e2.uA
    rw [HNPQ.out] at hcall
    refine hcall.mono ?_
    clear k8 k6 k4 kB e2 hIpq hcall
    rintro e w13 (⟨r', aw, cw, _, rfl, hww, hwA, hb⟩ | ⟨hno, _⟩)
    case inr => rw [HAPP.out, HRQ.out] at hno; cases hno
    have E6 := Lib.hid (var_term hb (t.put u (p ++ q)) aw cw hwA)
    have HB6 := Lib.hid (show Below w12.heap.size w12 (w13.alloc (tmCells (t.put u (p ++ q)).head aw (t.put u (p ++ q)).args.length cw)) from hb.alloc hb.size _)
    clear hww hwA hb
    have k10 := (E5.out _ HB6.out).2.2.1
    obtain ⟨k8, k6, k4, kB⟩ := KEY.out _ k10
    obtain ⟨b0, b1, _, _⟩ := E3.out _ k8
    obtain ⟨c0, c1, _, _⟩ := E4.out _ k10
    clear k8 k6 k4 kB k10
    go_wp2_with fail
    clear b0 b1 c0 c1
    generalize w13.alloc (tmCells (t.put u (p ++ q)).head aw (t.put u (p ++ q)).args.length cw) = w14 at HB6 E6 ⊢
    generalize w13.heap.size = bw at E6 ⊢
    have k10 := (E5.out w14 HB6.out).2.2.1
    obtain ⟨k8, k6, k4, kB⟩ := KEY.out w14 k10
    refine (sameAt_any r r rfl (by omega) w14.heap.size ab cb ac cc w14 (Nat.le_refl _) (E3.out w14 k8).2.2.2 (E4.out w14 k10).2.2.2).mono ?_
    clear k8 k6 k4 kB k10
    rintro e w15 ⟨rfl, hb⟩
    have HB7 := Lib.hid hb
    clear hb
    have k12 := (E6.out w15 HB7.out).2.2.1
    obtain ⟨v0, v1, k10, _⟩ := E5.out w15 k12
    obtain ⟨k8, k6, k4, kB⟩ := KEY.out w15 k10
    obtain ⟨t0, t1, _, _, _, _, _, _, _⟩ := E.out _ kB
    clear k8 k6 k4 kB k10 k12
    go_wp2_with fail
    clear v0 v1 t0 t1
    have k12 := (E6.out w15 HB7.out).2.2.1
    obtain ⟨_, _, k10, hvA⟩ := E5.out w15 k12
    obtain ⟨k8, k6, k4, kB⟩ := KEY.out w15 k10
    have e2 := E.out w15 kB
    refine (put_any t (by omega) p (s.put u q) w15.heap.size a c ap cp av cv w15 (Nat.le_refl _) HTW.out e2.tA e2.pI HVW.out hvA).mono ?_
    clear k8 k6 k4 kB e2 k10 k12 hvA
    rintro e w16 (⟨r', ad, cd, _, rfl, hdw, hdA, hb⟩ | ⟨hno, _⟩)
    case inr => rw [HAT.out] at hno; cases hno
    have E7 := Lib.hid (var_term hb (t.put (s.put u q) p) ad cd hdA)
    have HB8 := Lib.hid (show Below w15.heap.size w15 (w16.alloc (tmCells (t.put (s.put u q) p).head ad (t.put (s.put u q) p).args.length cd)) from hb.alloc hb.size _)
    clear hdw hdA hb
    go_wp2_with fail
    generalize w16.alloc (tmCells (t.put (s.put u q) p).head ad (t.put (s.put u q) p).args.length cd) = w17 at HB8 E7 ⊢
    generalize w16.heap.size = bd at E7 ⊢
    refine (awake2_any w17).mono ?_
    rintro e w18 ⟨rfl, hb⟩
    have HB9 := Lib.hid hb
    obtain ⟨d0, d1, k15, _⟩ := E7.out w18 hb
    obtain ⟨y0, y1, _, _⟩ := E6.out w18 (HB7.out.trans (k15.mono HB7.out.size))
    clear k15 hb
    go_wp2_with fail
    clear d0 d1 y0 y1
    obtain ⟨_, _, k15, hdA⟩ := E7.out w18 HB9.out
    obtain ⟨_, _, k12, hwA⟩ := E6.out w18 (HB7.out.trans (k15.mono HB7.out.size))
    have hps := T.put_size u (p ++ q) t
    refine (sameAt_any (t.put u (p ++ q)) (t.put (s.put u q) p) HPUT.out (by omega) w18.heap.size aw cw ad cd w18 (Nat.le_refl _) hwA hdA).mono ?_
    clear k15 k12 hdA hwA hps
    rintro e w19 ⟨rfl, hb⟩
    have hb := HB9.out.trans (hb.mono HB9.out.size)
    have k15 := (E7.out w19 hb).2.2.1
    have HF := Lib.hid (E.out w19 (KEY.out w19 (E5.out w19 (E6.out w19 (HB7.out.trans (k15.mono HB7.out.size))).2.2.1).2.2.1).2.2.2).below
    clear hb k15
    go_wp2
    go_ret
    exact ⟨by simp, HF.out⟩
  · obtain ⟨hat, rfl, hb⟩ := h7
    have HRQ := Lib.hid hat
    have E3 := Lib.hid (show ∀ W, Below (w7.alloc (tmCells 0 none 0 0)).heap.size (w7.alloc (tmCells 0 none 0 0)) W → W.cell? ⟨w7.heap.size, 0, none⟩ = some (.int .i64 0) ∧ W.cell? ⟨w7.heap.size, 1, none⟩ = some (.slice none 0 0) ∧ Below w6.heap.size w6 W ∧ IsArgs W.heap.size W Z0.args none 0 from fun W hW => by
      obtain ⟨h1, h2, h3, _⟩ := var_alloc hb 0 none 0 0 hW
      exact ⟨h1, h2, h3, by simp [Z0, T.args], by simp [maxLen], .inl rfl⟩)
    have HB3 := Lib.hid (show Below w6.heap.size w6 (w7.alloc (tmCells 0 none 0 0)) from hb.alloc hb.size _)
    clear hat hb
    obtain ⟨t0, t1, _, _, _, _, _, _, _⟩ := E.out _ (E1.out _ (E2.out _ HB3.out).2.2.1).1
    go_wp2_with fail
    clear t0 t1
    generalize w7.alloc (tmCells 0 none 0 0) = w8 at HB3 E3 ⊢
    generalize w7.heap.size = bb at E3 ⊢
    have k4 := (E2.out w8 HB3.out).2.2.1
    have e2 := E.out w8 (E1.out w8 k4).1
    have hIpq := (E1.out w8 k4).2
    have hcall := at_any t (p ++ q) w8.heap.size a c ar cr w8 (Nat.le_refl _) HTW.out e2.tA hIpq
    rw [HNPQ.out] at hcall
    refine hcall.mono ?_
    clear e2 k4 hIpq hcall
    rintro e w9 (⟨r', ac, cc, hat, _⟩ | ⟨_, rfl, hb⟩)
    · rw [HAPP.out, HRQ.out] at hat; cases hat
    have E4 := Lib.hid (show ∀ W, Below (w9.alloc (tmCells 0 none 0 0)).heap.size (w9.alloc (tmCells 0 none 0 0)) W → W.cell? ⟨w9.heap.size, 0, none⟩ = some (.int .i64 0) ∧ W.cell? ⟨w9.heap.size, 1, none⟩ = some (.slice none 0 0) ∧ Below w8.heap.size w8 W ∧ IsArgs W.heap.size W Z0.args none 0 from fun W hW => by
      obtain ⟨h1, h2, h3, _⟩ := var_alloc hb 0 none 0 0 hW
      exact ⟨h1, h2, h3, by simp [Z0, T.args], by simp [maxLen], .inl rfl⟩)
    have HB4' := Lib.hid (show Below w8.heap.size w8 (w9.alloc (tmCells 0 none 0 0)) from hb.alloc hb.size _)
    clear hb
    have KEY := Lib.hid (show ∀ W, Below (w9.alloc (tmCells 0 none 0 0)).heap.size (w9.alloc (tmCells 0 none 0 0)) W → Below w8.heap.size w8 W ∧ Below w6.heap.size w6 W ∧ Below w4.heap.size w4 W ∧ Below wB.heap.size wB W from fun W hW => by
      have h8 := (E4.out W hW).2.2.1
      have h6 := (E3.out W h8).2.2.1
      have h4 := (E2.out W h6).2.2.1
      exact ⟨h8, h6, h4, (E1.out W h4).1⟩)
    obtain ⟨k8, k6, k4, kB⟩ := KEY.out _ (Below.refl _ _)
    obtain ⟨s0, s1, _, _⟩ := E2.out _ k6
    obtain ⟨_, _, u0, u1, _, _, _, _, _⟩ := E.out _ kB
    clear k8 k6 k4 kB
    go_wp2_with fail
    clear s0 s1 u0 u1
    generalize w9.alloc (tmCells 0 none 0 0) = w10 at E4 KEY HB4' ⊢
    generalize w9.heap.size = bc at E4 ⊢
    obtain ⟨k8, k6, k4, kB⟩ := KEY.out w10 (Below.refl _ _)
    have e2 := E.out w10 kB
    refine (put_any s (by omega) q u w10.heap.size asx cs aq cq au cu w10 (Nat.le_refl _) HSW.out (E2.out w10 k6).2.2.2 e2.qI HUW.out e2.uA).mono ?_
    clear k8 k6 k4 kB e2
    rintro e w11 (⟨r', av, cv, hat, _⟩ | ⟨_, rfl, hb⟩)
    · rw [HRQ.out] at hat; cases hat
    have E5 := Lib.hid (show ∀ W, Below (w11.alloc (tmCells 0 none 0 0)).heap.size (w11.alloc (tmCells 0 none 0 0)) W → W.cell? ⟨w11.heap.size, 0, none⟩ = some (.int .i64 0) ∧ W.cell? ⟨w11.heap.size, 1, none⟩ = some (.slice none 0 0) ∧ Below w10.heap.size w10 W ∧ IsArgs W.heap.size W Z0.args none 0 from fun W hW => by
      obtain ⟨h1, h2, h3, _⟩ := var_alloc hb 0 none 0 0 hW
      exact ⟨h1, h2, h3, by simp [Z0, T.args], by simp [maxLen], .inl rfl⟩)
    have HB5 := Lib.hid (show Below w10.heap.size w10 (w11.alloc (tmCells 0 none 0 0)) from hb.alloc hb.size _)
    clear hb
    obtain ⟨k8, k6, k4, kB⟩ := KEY.out _ HB5.out
    obtain ⟨t0, t1, u0, u1, _, _, _, _, _⟩ := E.out _ kB
    clear k8 k6 k4 kB
    go_wp2_with fail
    clear t0 t1 u0 u1
    generalize w11.alloc (tmCells 0 none 0 0) = w12 at HB5 E5 ⊢
    generalize w11.heap.size = bv at E5 ⊢
    obtain ⟨k8, k6, k4, kB⟩ := KEY.out w12 HB5.out
    have e2 := E.out w12 kB
    have hIpq := (E1.out w12 k4).2
    have hcall := put_any t (by omega) (p ++ q) u w12.heap.size a c ar cr au cu w12 (Nat.le_refl _) HTW.out e2.tA hIpq HUW.out e2.uA
    rw [HNPQ.out] at hcall
    refine hcall.mono ?_
    clear k8 k6 k4 kB e2 hIpq hcall
    rintro e w13 (⟨r', aw, cw, hat, _⟩ | ⟨_, rfl, hb⟩)
    · rw [HAPP.out, HRQ.out] at hat; cases hat
    have E6 := Lib.hid (show ∀ W, Below (w13.alloc (tmCells 0 none 0 0)).heap.size (w13.alloc (tmCells 0 none 0 0)) W → W.cell? ⟨w13.heap.size, 0, none⟩ = some (.int .i64 0) ∧ W.cell? ⟨w13.heap.size, 1, none⟩ = some (.slice none 0 0) ∧ Below w12.heap.size w12 W ∧ IsArgs W.heap.size W Z0.args none 0 from fun W hW => by
      obtain ⟨h1, h2, h3, _⟩ := var_alloc hb 0 none 0 0 hW
      exact ⟨h1, h2, h3, by simp [Z0, T.args], by simp [maxLen], .inl rfl⟩)
    have HB6 := Lib.hid (show Below w12.heap.size w12 (w13.alloc (tmCells 0 none 0 0)) from hb.alloc hb.size _)
    clear hb
    have k10 := (E5.out _ HB6.out).2.2.1
    obtain ⟨k8, k6, k4, kB⟩ := KEY.out _ k10
    obtain ⟨b0, b1, _, _⟩ := E3.out _ k8
    obtain ⟨c0, c1, _, _⟩ := E4.out _ k10
    clear k8 k6 k4 kB k10
    go_wp2_with fail
    clear b0 b1 c0 c1
    generalize w13.alloc (tmCells 0 none 0 0) = w14 at HB6 E6 ⊢
    generalize w13.heap.size = bw at E6 ⊢
    have k10 := (E5.out w14 HB6.out).2.2.1
    obtain ⟨k8, k6, k4, kB⟩ := KEY.out w14 k10
    refine (sameAt_any Z0 Z0 rfl (by simp [Z0, T.size, T.sizes]) w14.heap.size none 0 none 0 w14 (Nat.le_refl _) (E3.out w14 k8).2.2.2 (E4.out w14 k10).2.2.2).mono ?_
    clear k8 k6 k4 kB k10
    rintro e w15 ⟨rfl, hb⟩
    have HB7 := Lib.hid hb
    clear hb
    go_wp2_with fail
    refine (awake2_any _).mono ?_
    rintro e w16 ⟨rfl, hb⟩
    have HF := Lib.hid (E.out w16 (KEY.out w16 (E5.out w16 (E6.out w16 (HB7.out.trans (hb.mono HB7.out.size))).2.2.1).2.2.1).2.2.2).below
    clear hb
    go_wp2
    go_ret
    exact ⟨by simp, HF.out⟩

end Go.Proofs.Ytgocfiahlbgjjaa
