/- QBj: joined of Clone, Kgf, Kwc. -/
import Derived.Test.YtpncmdlbmnmahaaGreatQBe
import Derived.Test.YtpncmdlbmnmahaaGreatQBh
import Derived.Test.YtpncmdlbmnmahaaGreatComp
import Derived.Test.YtpncmdlbmnmahaaGreatQBc
import Derived.Test.YtpncmdlbmnmahaaGreatQBf
import Derived.Test.YtpncmdlbmnmahaaGreatQBa
import Derived.Test.YtpncmdlbmnmahaaGreatQBd
import Derived.Deep.AppendLies
import Derived.Maps.AppendAt
import Derived.Laws.AppendOwnNone
import Derived.StillTailTactics
/- Contract of slices.Clone, at slices of terms. -/
namespace Go.Proofs.YtpncmdlbmnmahaaGreat
set_option linter.unusedVariables false
set_option linter.unusedSimpArgs false
open Go.RowKit
set_option maxRecDepth 100000 in
set_option maxHeartbeats 1000000 in
theorem cloneN_any (ts : List T) (hts : ts.length ≤ 1000000000000) (n₀ : Nat) (a : Option Addr) (c : Nat) (w : World) (hn : n₀ ≤ w.heap.size) (hA : IsArgs n₀ w ts a c) :
    Calls Tryz.prog 99 #[.slice a ts.length c] w fun e w' => ∃ a2 c2, e = .returned (.slice a2 ts.length c2) ∧ NewRow n₀ w.heap.size w' ts a2 c2 ∧ Below w.heap.size w w' ∧ (a2 = none → c2 = 0) := by
  have q22 : ∀ (w : World) (a : Option Addr) (n c n' c' : Nat), (binOp .eql 40 (.slice a n c) (.slice none n' c')).run Tryz.prog w = .ok (.bool a.isNone) w := fun w a n c n' c' => Lib.run_eql_slice_nil w _ _ a n c n' c' Tryz.underlying40
  cases a with
  | none =>
    have h0 : ts = [] := by rcases hA.2.2 with h | ⟨_, _, h, _⟩; exact h; cases h
    subst h0
    go_enter Tryz.func99, Tryz.ntmps99
    go_wp2
    go_ret
    exact ⟨none, 0, rfl, ⟨by simp, by simp [maxLen], .inl rfl⟩, Below.refl _ _, fun _ => rfl⟩
  | some ad =>
    have hnews : ∃ news : List Value, news.length = ts.length * 2 ∧ (∀ j u, news[j]? = some u → w.cell? (ad.add j) = some u) ∧ (∀ u ∈ news, u.oneCell' = true) ∧
        ∀ (W : World) (g q : Nat), Below n₀ w W → (∀ j u, news[j]? = some u → W.cell? ⟨g, q + j, none⟩ = some u) → IsRow n₀ W ts g q := by
      rcases hA.2.2 with rfl | ⟨b, o, h, hb, hrow⟩
      · exact ⟨[], rfl, by simp, by simp, fun _ _ _ _ _ => trivial⟩
      · cases h
        obtain ⟨news, h1, h2, h3, h4⟩ := row_cells ts b o hrow
        exact ⟨news, h1, fun j u hj => by rw [show ((⟨b, o, none⟩ : Addr).add j) = ⟨b, o + j, none⟩ from by unfold Addr.add; split <;> simp_all]; exact h2 j u hj, h3, h4⟩
    obtain ⟨news, h1, h2, h3, h4⟩ := hnews
    have hlt : ∀ j u, news[j]? = some u → (ad.add j).block < w.heap.size := fun j u hj => World.block_lt_of_cell? w _ (h2 j u hj)
    have H2 := Lib.hid h2
    have H3 := Lib.hid h3
    have H4 := Lib.hid h4
    have H1 := Lib.hid h1
    have HLT := Lib.hid hlt
    obtain ⟨i0, hi, hz0, hz1, hz2⟩ := info_parts infoTerm
    clear h1 h2 h3 h4 hA hlt
    go_enter Tryz.func99, Tryz.ntmps99
    go_wp2_with (at_builtin; refine stopHere ?_)
    refine Lib.hid ?_
    refine wpList_append_own _ rfl _ _ 40 rfl w.heap.size 42 i0 (.agg #[.int .i64 0, .slice none 0 0]) 2 32 Tryz.underlying40 hi hz0 hz1 hz2 rfl (by decide) (.slice (some ⟨w.heap.size, 0, none⟩) 0 0) 0 [] rfl
      (World.ownsRow_made w #[] 0 (Nat.le_refl _) (by simp [maxLen]) rfl) ad ts.length c news rfl H1.out (fun j u hj => (World.cell?_of_block (Below.heap_alloc w _ _ (HLT.out j u hj))).trans (H2.out j u hj)) H3.out (by unfold maxLen; omega) (by omega) (by simp) ?_
    intro v' w2 hown hgr _
    have hb2 : Below w.heap.size w w2 := ((Below.refl _ w).alloc (Nat.le_refl _) _).grown hgr (by simp) (by intro k hk; simp [Value.ownBlock] at hk; omega)
    have HB := Lib.hid hb2
    have HO := Lib.hid hown
    clear hown hgr hb2
    go_wp2
    go_ret
    have hown := HO.out
    simp only [Nat.zero_add, List.nil_append] at hown
    obtain ⟨a2, c2, e, hr⟩ := newRow_of_owns (HB.out.mono hn) hown H4.out
    refine ⟨a2, c2, ?_, hr, HB.out, ?_⟩
    · subst e
      rfl
    · intro hn
      subst hn
      rcases hown.2 with ⟨h, _⟩ | ⟨g, cap, cur, h, _⟩
      · rw [e] at h; simp at h; exact h.2
      · rw [e] at h; simp at h
theorem clone_any (ts : List T) (hts : ts.length ≤ 1000000000000) (n₀ : Nat) (a : Option Addr) (c : Nat) (w : World) (hn : n₀ ≤ w.heap.size) (hA : IsArgs n₀ w ts a c) :
    Calls Tryz.prog 99 #[.slice a ts.length c] w (ClonePost n₀ ts w) :=
  (cloneN_any ts hts n₀ a c w hn hA).mono fun _ _ ⟨a2, c2, h1, h2, h3, _⟩ => ⟨a2, c2, h1, h2, h3⟩
end Go.Proofs.YtpncmdlbmnmahaaGreat

/- Kbo's greatestFirst: a copy, sorted; the greatest first. -/
namespace Go.Proofs.YtpncmdlbmnmahaaGreat
set_option linter.unusedVariables false
set_option linter.unusedSimpArgs false
open Go.RowKit
/-- The order by which it sorts. -/
theorem swoT {α : Type} (k : α → T) : Go.Sort.SWO (ltOf fun x y => T.cmp (k y) (k x)) where
  irrefl x := by show decide (T.cmp (k x) (k x) < 0) = false; rw [T.cmp_self]; rfl
  trans x y z h1 h2 := by
    simp only [ltOf, decide_eq_true_eq] at *
    exact T.cmp_trans _ _ _ h2 h1
  ntrans x y z h1 h2 := by
    simp only [ltOf, decide_eq_false_iff_not] at *
    have e1 := T.cmp_neg (k x) (k y)
    have e2 := T.cmp_neg (k y) (k z)
    have e3 := T.cmp_neg (k x) (k z)
    have := T.cmp_le_trans (x := k z) (y := k y) (z := k x)
    intro h
    have h3 := (T.cmp_le_trans (x := k x) (y := k y) (z := k z) (by omega) (by omega)).1
    omega
set_option maxRecDepth 100000 in
theorem gf1_any (t u : T) (ht : t.size ≤ 1000000000000) (hu : u.size ≤ 1000000000000) (n₀ : Nat) (a : Option Addr) (c : Nat) (a' : Option Addr) (c' : Nat) (w : World) (hn : n₀ ≤ w.heap.size) (hwt : (Lit.int .i64 t.head).wf = true) (hwu : (Lit.int .i64 u.head).wf = true) (hA : IsArgs n₀ w t.args a c) (hA' : IsArgs n₀ w u.args a' c') :
    Calls Tryz.prog 101 #[tm t.head a t.args.length c, tm u.head a' u.args.length c'] w fun e w' => e = .returned (.int .i64 (T.cmp u t)) ∧ Below w.heap.size w w' := by
  have hF : Below w.heap.size w ((w.alloc (tmCells t.head a t.args.length c)).alloc (tmCells u.head a' u.args.length c')) := ((Below.refl _ w).alloc (Nat.le_refl _) _).alloc (by simp) _
  have HC := Lib.hid (compare_any u t hu ht n₀ a' c' a c _ (Nat.le_trans hn hF.size) hwu hwt (hA'.below (hF.mono hn)) (hA.below (hF.mono hn)))
  have HF := Lib.hid hF
  clear hF hA hA'
  go_enter Tryz.func101, Tryz.ntmps101
  go_wp2_with fail
  refine HC.out.mono ?_
  rintro e w2 ⟨rfl, hb2⟩
  have HB := Lib.hid (HF.out.trans (hb2.mono HF.out.size))
  clear hb2
  go_wp2
  go_ret
  exact ⟨rfl, HB.out⟩
/-- Sorted, the greatest first. -/
def Desc (us : List T) : Prop := us.Pairwise fun x y => 0 ≤ T.cmp x y
def GfPost (ts : List T) (w : World) (e : Ending) (w' : World) : Prop :=
  ∃ us a c, e = .returned (.slice a us.length c) ∧ us.Perm ts ∧ Desc us ∧ IsArgs w'.heap.size w' us a c ∧ (a = none → c = 0) ∧ Below w.heap.size w w'
set_option maxRecDepth 100000 in
set_option maxHeartbeats 2000000 in
theorem greatestFirst_any (ts : List T) (hts : ts.length ≤ 1000000000000) (hsz : ∀ t ∈ ts, t.size ≤ 1000000000000) (n₀ : Nat) (a : Option Addr) (c : Nat) (w : World) (hn : n₀ ≤ w.heap.size) (hA : IsArgs n₀ w ts a c) :
    Calls Tryz.prog 73 #[.slice a ts.length c] w (GfPost ts w) := by
  have HC := Lib.hid (cloneN_any ts hts n₀ a c w hn hA)
  have eg := enters_of Tryz.func101 (by kernel_rfl) rfl
  have HS := Lib.hid (fun (g cap : Nat) (W : World) (hg1 : w.heap.size ≤ g) (hg2 : g < W.heap.size) (hR : IsRow n₀ W ts g 0) (hfr : ∀ j, j < ts.length * 2 → W.frozen? ⟨g, j, none⟩ = false) =>
    sortT_any 101 eg (fun x y => T.cmp y x) swoT ts hts n₀ g cap W (by omega) hg2 hR hfr (fun x y a c a' c' X hx hy hX hxw hyw hxA hyA =>
      gf1_any x y (hsz x hx) (hsz y hy) n₀ a c a' c' X (by have := hX.size; omega) hxw hyw hxA hyA))
  have HZ := Lib.hid (fun (p : Option Addr) (cap : Nat) (W : World) => sortC_zero p cap (.func (.func 101) #[] #[]) W)
  have HAl := Lib.hid hts
  clear hA hts
  go_enter Tryz.func73, Tryz.ntmps73
  go_wp2_with fail
  refine HC.out.mono ?_
  rintro e w2 ⟨a2, c2, rfl, ⟨h1, h2, h3⟩, hb2, hnl⟩
  have HB2 := Lib.hid hb2
  have HNL := Lib.hid hnl
  clear hnl
  rcases h3 with h3 | ⟨g, cur, rfl, hg, hh, hcs, hrow⟩
  · subst h3
    have HP := Lib.hid (And.intro h1 h2)
    clear hb2 h1 h2
    go_wp2_with fail
    refine (HZ.out _ _ _).mono ?_
    rintro e w3 ⟨rfl, hw3⟩
    subst hw3
    go_wp2
    go_ret
    exact ⟨[], a2, c2, rfl, List.Perm.refl _, List.Pairwise.nil, ⟨HP.out.1, HP.out.2, .inl rfl⟩, HNL.out, HB2.out⟩
  · have hgl : g < w2.heap.size := (Array.getElem?_eq_some_iff.1 hh).1
    have HS2 := Lib.hid (HS.out g c2 w2 hg hgl hrow (fun j hj => by simp [World.frozen?, hh]))
    have HP := Lib.hid (And.intro h1 h2)
    have HG := Lib.hid hg
    clear hb2 h1 h2 hh hcs hrow hg
    go_wp2_with fail
    refine HS2.out.mono ?_
    rintro e w3 ⟨rfl, us, hp, hd, hr3, hgr⟩
    have HUS := Lib.hid (And.intro hp hd)
    have HR := Lib.hid hr3
    have HGR := Lib.hid hgr
    have HL := Lib.hid hp.length_eq
    clear hp hd hr3 hgr
    go_wp2
    go_ret
    have hb3 : Below w.heap.size w w3 := HB2.out.grown HGR.out HB2.out.size (fun k e => by cases e; exact HG.out)
    refine ⟨us, _, c2, by rw [HL.out]; rfl, HUS.out.1, HUS.out.2, ⟨by rw [HL.out]; exact HP.out.1, HP.out.2, .inr ⟨g, 0, rfl, Nat.lt_of_lt_of_le hgl HGR.out.size, HR.out.mono (Nat.le_trans hn hb3.size)⟩⟩, (fun e => by cases e), hb3⟩
end Go.Proofs.YtpncmdlbmnmahaaGreat

/- Kbo's withoutCommon: two rows merged, what both have left out. -/
namespace Go.Proofs.YtpncmdlbmnmahaaGreat
set_option linter.unusedVariables false
set_option linter.unusedSimpArgs false
open Go.RowKit
theorem RowVals.append {ok : Nat → Prop} {w : World} {us : List T} {ys : List Value} (h2 : RowVals ok w us ys) : ∀ {ts : List T} {xs : List Value}, RowVals ok w ts xs → RowVals ok w (ts ++ us) (xs ++ ys)
  | [], [], _ => h2
  | _ :: _, _ :: _ :: _, ⟨p1, p2, p3, p4⟩ => ⟨p1, p2, p3, RowVals.append h2 p4⟩
  | [], _ :: _, h => h.elim
  | _ :: _, [], h => h.elim
  | _ :: _, [_], h => h.elim
/-- A row of terms of one's own. -/
def OA (n₁ : Nat) (v : Value) (P : List T) (W : World) : Prop := ∃ xs, W.ownsRow n₁ 42 2 v P.length xs ∧ RowVals (· < n₁) W P xs
theorem OA.nil (n₁ : Nat) (W : World) : OA n₁ (.slice none 0 0) [] W := ⟨[], ⟨by simp, .inl ⟨rfl, rfl⟩⟩, trivial⟩
theorem OA.kept {n₁ : Nat} {v : Value} {P : List T} {W W' : World} (h : OA n₁ v P W) (hb : Below n₁ W W') (hk : ∀ g, v.ownBlock = some g → W'.heap[g]? = W.heap[g]?) : OA n₁ v P W' := by
  obtain ⟨xs, h1, h2⟩ := h
  exact ⟨xs, Mm.ownsRow_kept h1 hk, h2.keep (fun b hb' => hb.block b hb') (fun _ x => x)⟩
theorem OA.block {n₁ : Nat} {v : Value} {P : List T} {W : World} (h : OA n₁ v P W) {g : Nat} (hg : v.ownBlock = some g) : n₁ ≤ g ∧ g < W.heap.size := by
  obtain ⟨xs, h1, h2⟩ := h
  obtain ⟨a, b, _⟩ := Mm.rowBlock h1 hg
  exact ⟨a, b⟩
theorem OA.args {n₁ : Nat} {v : Value} {P : List T} {W : World} (h : OA n₁ v P W) (hn : n₁ ≤ W.heap.size) : ∃ a c, v = .slice a P.length c ∧ IsArgs W.heap.size W P a c := by
  have hbl := fun g (hg : v.ownBlock = some g) => h.block hg
  obtain ⟨xs, h1, h2⟩ := h
  obtain ⟨a, c, e, hA⟩ := argsp_of_owns (ok' := (· < W.heap.size)) h1 h2 (fun b hb => Nat.lt_of_lt_of_le hb hn) (fun g hg => (hbl g hg).2)
  exact ⟨a, c, e, isArgsp_lt.1 hA⟩
theorem OA.later {n₁ : Nat} {v : Value} {P : List T} {W W' : World} (h : OA n₁ v P W) (hn : n₁ ≤ W.heap.size) (hb : Below W.heap.size W W') : OA n₁ v P W' := h.kept (hb.mono hn) (fun g hg => hb.block g (h.block hg).2)
/-- What is appended: terms whose cells lie at an address. -/
def Src (n₁ : Nat) (w : World) (ts : List T) (a : Option Addr) (c : Nat) : Prop :=
  (a = none → c = 0 ∧ ts = []) ∧ ∃ news, RowVals (· < n₁) w ts news ∧ (∀ u ∈ news, u.oneCell' = true) ∧ ∀ ad, a = some ad → ∀ j u, news[j]? = some u → w.cell? (ad.add j) = some u
theorem Src.of_args {n₁ : Nat} {w : World} {ts : List T} {a : Option Addr} {c : Nat} (hA : IsArgs n₁ w ts a c) (hnil : a = none → c = 0) : Src n₁ w ts a c := by
  refine ⟨fun h => ⟨hnil h, ?_⟩, ?_⟩
  · rcases hA.2.2 with h' | ⟨b, o, h', _⟩
    · exact h'
    · rw [h] at h'; cases h'
  · rcases hA.2.2 with rfl | ⟨b, o, rfl, hb, hr⟩
    · exact ⟨[], trivial, by simp, by simp⟩
    · obtain ⟨xs, h1, h2, h3⟩ := rowVals_of ts o ((isRowp_lt ts).2 hr)
      exact ⟨xs, h1, h3, fun ad e j u hj => by cases e; rw [addr_add]; exact h2 j u hj⟩
theorem Src.of_one {n₁ : Nat} {w : World} {x : T} {e : Option Addr} {f : Nat} (hw : (Lit.int .i64 x.head).wf = true) (hA : IsArgs n₁ w x.args e f) (b : Nat) (h0 : w.cell? ⟨b, 0, none⟩ = some (.int .i64 x.head)) (h1 : w.cell? ⟨b, 1, none⟩ = some (.slice e x.args.length f)) : Src n₁ w [x] (some ⟨b, 0, none⟩) 1 := by
  refine ⟨(fun h => by cases h), [.int .i64 x.head, .slice e x.args.length f], ⟨hw, rfl, ⟨e, f, rfl, isArgsp_lt.2 hA⟩, trivial⟩, ?_, fun ad e' j u hj => ?_⟩
  · intro u hu; simp at hu; rcases hu with rfl | rfl <;> rfl
  · cases e'
    rw [addr_add, Nat.zero_add]
    match j, hj with
    | 0, hj => simp at hj; subst hj; exact h0
    | 1, hj => simp at hj; subst hj; exact h1
    | j + 2, hj => simp at hj
/-- append(v, ts...), where v is a row of one's own. -/
theorem wpList_append_ts {w : World} {ops : Array Oper} {rest : List Oper} {o : Oper} {a : Act} {Q : Exit → Act → World → Prop} (hgd : o.guard = none) (s x : Operand)
    (ho : o.op = .call { callee := .builtin .append, args := #[s, x], argTypes := #[40, 40] }) (n₁ : Nat) (v : Value) (P : List T) (hs : a.eval s = v) (hO : OA n₁ v P w) (hn : n₁ ≤ w.heap.size)
    (ts : List T) (a' : Option Addr) (c' : Nat) (hx : a.eval x = .slice a' ts.length c') (hS : Src n₁ w ts a' c') (hl : P.length + ts.length ≤ 10000000)
    (h : ∀ v' w', OA n₁ v' (P ++ ts) w' → w.grownBy w' v.ownBlock → (v'.ownBlock = v.ownBlock ∨ v'.ownBlock = some w.heap.size) → wpList Tryz.prog ops Q rest (a.put o.dst v') w') : wpList Tryz.prog ops Q (o :: rest) a w := by
  obtain ⟨i0, hi, hz0, hz1, hz2⟩ := info_parts infoTerm
  obtain ⟨xs, hown, hrv⟩ := hO
  obtain ⟨hnone, news, hnv, h1, hcl⟩ := hS
  cases a' with
  | none =>
    obtain ⟨rfl, rfl⟩ := hnone rfl
    refine wpList_append_own_none hgd s x 40 ho n₁ 42 i0 2 Tryz.underlying40 hi v P.length xs hs hown hx ?_
    exact h v w ⟨xs, by simpa using hown, by simpa using hrv⟩ ⟨rfl, rfl, rfl, Nat.le_refl _, fun _ _ _ => rfl⟩ (.inl rfl)
  | some ad =>
    have hnl : news.length = ts.length * 2 := hnv.length
    obtain ⟨v', w', hr, h2, h3, _, h5⟩ := run_append_own_at (P := Tryz.prog) w n₁ 40 o.type 42 i0 (.agg #[.int .i64 0, .slice none 0 0]) 2 32 Tryz.underlying40 hi hz0 hz1 hz2 rfl (by decide) v P.length xs hown ad ts.length c' news hnl (hcl ad rfl) h1 (by unfold maxLen; omega) (by omega) hn
    refine wpList_plain hgd fun K hK => ?_
    unfold Oper.wp execOp
    simp only [ho, resolve, invoke, builtin, Sem.run_bind, Sem.run_pure, Result.andThen_ok, List.map_toArray, List.map_cons, List.map_nil, hs, hx, hr]
    refine hK _ _ (h v' w' ⟨xs ++ news, by simpa using h2, ?_⟩ h3 h5)
    have hrow := hrv
    have hb : ∀ b, b < n₁ → w'.heap[b]? = w.heap[b]? := fun b hb => h3.block b (by omega) (fun e => by
      have := Mm.rowBlock hown e.symm
      omega)
    exact RowVals.append (hnv.keep hb (fun _ x => x)) (hrv.keep hb (fun _ x => x))
/-! ### Counts -/
def sub (a b : List T) (z : T) : Nat := a.count z - b.count z
structure WcC (A0 B0 X Y P Q : List T) : Prop where
  p : ∀ z, P.count z + sub X Y z = sub A0 B0 z
  q : ∀ z, Q.count z + sub Y X z = sub B0 A0 z
theorem Desc.head {x : T} {X : List T} (h : Desc (x :: X)) {z : T} (hz : z ∈ x :: X) : 0 ≤ T.cmp x z := by
  rcases List.mem_cons.1 hz with rfl | hz
  · rw [T.cmp_self]; exact Int.le_refl _
  · exact (List.pairwise_cons.1 h).1 z hz
theorem Desc.tail {x : T} {X : List T} (h : Desc (x :: X)) : Desc X := (List.pairwise_cons.1 h).2
theorem desc_not {x y : T} {Y : List T} (h : Desc (y :: Y)) (hc : 0 < T.cmp x y) : x ∉ y :: Y := fun hm => by
  have h1 := h.head hm
  have h2 := T.cmp_neg x y
  omega
theorem desc_not' {x y : T} {X : List T} (h : Desc (x :: X)) (hc : T.cmp x y < 0) : y ∉ x :: X := fun hm => by
  have := h.head hm
  omega
section
variable {A0 B0 X Y P Q : List T} {x y : T}
theorem WcC.more (h : WcC A0 B0 (x :: X) Y P Q) (hn : x ∉ Y) : WcC A0 B0 X Y (P ++ [x]) Q := by
  have h0 := List.count_eq_zero.2 hn
  refine ⟨fun z => ?_, fun z => ?_⟩
  · have := h.p z
    unfold sub at this ⊢
    rw [List.count_append, List.count_singleton]
    rw [List.count_cons] at this
    by_cases e : x = z
    · subst e; simp at this ⊢; omega
    · simp [e] at this ⊢; omega
  · have := h.q z
    unfold sub at this ⊢
    rw [List.count_cons] at this
    by_cases e : x = z
    · subst e; simp at this ⊢; omega
    · simp [e] at this ⊢; omega
theorem WcC.both (h : WcC A0 B0 (x :: X) (x :: Y) P Q) : WcC A0 B0 X Y P Q := by
  refine ⟨fun z => ?_, fun z => ?_⟩
  · have := h.p z
    unfold sub at this ⊢
    rw [List.count_cons, List.count_cons] at this
    omega
  · have := h.q z
    unfold sub at this ⊢
    rw [List.count_cons, List.count_cons] at this
    omega
theorem WcC.fin (h : WcC A0 B0 X Y P Q) (he : X = [] ∨ Y = []) : (∀ z, (P ++ X).count z = sub A0 B0 z) ∧ (∀ z, (Q ++ Y).count z = sub B0 A0 z) := by
  refine ⟨fun z => ?_, fun z => ?_⟩
  · rw [← h.p z, List.count_append]
    unfold sub
    rcases he with rfl | rfl <;> simp
  · rw [← h.q z, List.count_append]
    unfold sub
    rcases he with rfl | rfl <;> simp
end
/-- X is left of a row, at a slice. -/
structure Lft (n₁ : Nat) (v : Value) (X : List T) (W : World) : Prop where
  form : ∃ a c, v = .slice a X.length c ∧ IsArgs n₁ W X a c ∧ (a = none → c = 0)
  desc : Desc X
  size : ∀ t ∈ X, t.size ≤ 1000000000000
theorem Lft.below {n₁ : Nat} {v : Value} {X : List T} {W W' : World} (h : Lft n₁ v X W) (hb : Below n₁ W W') : Lft n₁ v X W' := by
  obtain ⟨⟨a, c, e, h1, h2⟩, h3, h4⟩ := h
  exact ⟨⟨a, c, e, h1.below hb, h2⟩, h3, h4⟩
/-- One off. -/
theorem Lft.tail {n₁ : Nat} {x : T} {X : List T} {W : World} {b o c : Nat} (h : Lft n₁ (.slice (some ⟨b, o, none⟩) (x :: X).length c) (x :: X) W) : Lft n₁ (.slice (some ⟨b, if c = 1 then o else o + 2, none⟩) X.length (c - 1)) X W := by
  obtain ⟨⟨a, c', e, h1, h2⟩, h3, h4⟩ := h
  simp only [Value.slice.injEq, true_and] at e
  obtain ⟨rfl, rfl⟩ := e
  have := h1.tail (j := 1) (by simp)
  exact ⟨⟨_, _, rfl, by simpa using this, fun e => by cases e⟩, h3.tail, fun t ht => h4 t (List.mem_cons_of_mem _ ht)⟩
structure WcI (A0 B0 : List T) (n₁ : Nat) (w : World) (av bv ov pv : Value) (X Y P Q : List T) (wr : World) : Prop where
  x : Lft n₁ av X wr
  y : Lft n₁ bv Y wr
  p : OA n₁ ov P wr
  q : OA n₁ pv Q wr
  ne : ∀ g, ov.ownBlock = some g → pv.ownBlock ≠ some g
  c : WcC A0 B0 X Y P Q
  l1 : P.length + X.length ≤ A0.length
  l2 : Q.length + Y.length ≤ B0.length
  b : Below w.heap.size w wr
  n : w.heap.size ≤ n₁ ∧ n₁ ≤ wr.heap.size
theorem WcC.swap {A0 B0 X Y P Q : List T} (h : WcC A0 B0 X Y P Q) : WcC B0 A0 Y X Q P := ⟨h.q, h.p⟩
section
variable {A0 B0 X Y P Q : List T} {n₁ : Nat} {w wr w3 w' : World} {av bv ov pv : Value} {x y : T}
theorem WcI.swap (h : WcI A0 B0 n₁ w av bv ov pv X Y P Q wr) : WcI B0 A0 n₁ w bv av pv ov Y X Q P wr := ⟨h.y, h.x, h.q, h.p, fun g h1 h2 => h.ne g h2 h1, h.c.swap, h.l2, h.l1, h.b, h.n⟩
theorem WcI.later (h : WcI A0 B0 n₁ w av bv ov pv X Y P Q wr) (hb : Below wr.heap.size wr w') : WcI A0 B0 n₁ w av bv ov pv X Y P Q w' :=
  ⟨h.x.below (hb.mono h.n.2), h.y.below (hb.mono h.n.2), h.p.later h.n.2 hb, h.q.later h.n.2 hb, h.ne, h.c, h.l1, h.l2, h.b.trans (hb.mono h.b.size), ⟨h.n.1, Nat.le_trans h.n.2 hb.size⟩⟩
theorem WcI.both {b1 o1 c1 b2 o2 c2 : Nat} (h : WcI A0 B0 n₁ w (.slice (some ⟨b1, o1, none⟩) (x :: X).length c1) (.slice (some ⟨b2, o2, none⟩) (x :: Y).length c2) ov pv (x :: X) (x :: Y) P Q wr) :
    WcI A0 B0 n₁ w (.slice (some ⟨b1, if c1 = 1 then o1 else o1 + 2, none⟩) X.length (c1 - 1)) (.slice (some ⟨b2, if c2 = 1 then o2 else o2 + 2, none⟩) Y.length (c2 - 1)) ov pv X Y P Q wr :=
  ⟨h.x.tail, h.y.tail, h.p, h.q, h.ne, h.c.both, by have := h.l1; simp at this; omega, by have := h.l2; simp at this; omega, h.b, h.n⟩
/-- What an append does to the state: the row v' instead of ov. -/
theorem WcI.grow {v' : Value} {P' : List T} (h : WcI A0 B0 n₁ w av bv ov pv X Y P Q wr) (hO : OA n₁ v' P' w') (hg : wr.grownBy w' ov.ownBlock) (hv : v'.ownBlock = ov.ownBlock ∨ v'.ownBlock = some wr.heap.size) :
    Lft n₁ av X w' ∧ Lft n₁ bv Y w' ∧ OA n₁ pv Q w' ∧ (∀ g, v'.ownBlock = some g → pv.ownBlock ≠ some g) ∧ Below w.heap.size w w' ∧ n₁ ≤ w'.heap.size ∧ Below n₁ wr w' := by
  have hb : Below n₁ wr w' := (Below.refl n₁ wr).grown hg h.n.2 (fun k e => (h.p.block e).1)
  refine ⟨h.x.below hb, h.y.below hb, h.q.kept hb (fun g e => hg.block g (h.q.block e).2 (fun e' => h.ne g e'.symm e)), fun g e e' => ?_, h.b.trans (hb.mono h.n.1), Nat.le_trans h.n.2 hg.size, hb⟩
  rcases hv with hv | hv
  · exact h.ne g (hv ▸ e) e'
  · rw [hv] at e
    cases e
    have := (h.q.block e').2
    omega
theorem WcI.more {b1 o1 c1 : Nat} {v' : Value} (h : WcI A0 B0 n₁ w (.slice (some ⟨b1, o1, none⟩) (x :: X).length c1) bv ov pv (x :: X) Y P Q wr) (hn : x ∉ Y) (hO : OA n₁ v' (P ++ [x]) w') (hg : wr.grownBy w' ov.ownBlock) (hv : v'.ownBlock = ov.ownBlock ∨ v'.ownBlock = some wr.heap.size) :
    WcI A0 B0 n₁ w (.slice (some ⟨b1, if c1 = 1 then o1 else o1 + 2, none⟩) X.length (c1 - 1)) bv v' pv X Y (P ++ [x]) Q w' := by
  obtain ⟨k1, k2, k3, k4, k5, k6, _⟩ := h.grow hO hg hv
  exact ⟨k1.tail, k2, hO, k3, k4, h.c.more hn, by have := h.l1; simp at this ⊢; omega, h.l2, k5, h.n.1, k6⟩
end
def lenV : Value → Nat
  | .slice _ n _ => n
  | _ => 0
def WcPost (A0 B0 : List T) (w : World) (e : Ending) (w' : World) : Prop :=
  ∃ us vs a1 c1 a2 c2, e = .returned (.tuple #[.slice a1 us.length c1, .slice a2 vs.length c2]) ∧ (∀ z, us.count z = sub A0 B0 z) ∧ (∀ z, vs.count z = sub B0 A0 z) ∧ IsArgs w'.heap.size w' us a1 c1 ∧ IsArgs w'.heap.size w' vs a2 c2 ∧ us.length ≤ A0.length ∧ vs.length ≤ B0.length ∧ Below w.heap.size w w'
set_option maxRecDepth 100000 in
set_option maxHeartbeats 4000000 in
theorem withoutCommon_any (A0 B0 : List T) (hla : A0.length ≤ 1000000) (hlb : B0.length ≤ 1000000) (hsa : ∀ t ∈ A0, t.size ≤ 1000000000000) (hsb : ∀ t ∈ B0, t.size ≤ 1000000000000) (n₀ : Nat) (pa : Option Addr) (ca : Nat) (pb : Option Addr) (cb : Nat) (w : World) (hn : n₀ ≤ w.heap.size) (hA : IsArgs n₀ w A0 pa ca) (hB : IsArgs n₀ w B0 pb cb) :
    Calls Tryz.prog 58 #[.slice pa A0.length ca, .slice pb B0.length cb] w (WcPost A0 B0 w) := by
  have H1 := Lib.hid (greatestFirst_any A0 (by omega) hsa n₀ pa ca w hn hA)
  have H2 := Lib.hid (fun (W : World) (hW : Below w.heap.size w W) => greatestFirst_any B0 (by omega) hsb n₀ pb cb W (Nat.le_trans hn hW.size) (hB.below (hW.mono hn)))
  clear hA hB
  obtain ⟨i0, hi, hz0, hz1, hz2⟩ := info_parts infoTerm
  go_enter Tryz.func58, Tryz.ntmps58
  go_wp2_with fail
  refine H1.out.mono ?_
  rintro e w1 ⟨X0, a1, c1, rfl, hp1, hd1, hA1, hn1, hb1⟩
  have HX := Lib.hid (And.intro hp1 (And.intro hd1 (And.intro hA1 (And.intro hn1 hb1))))
  have H2b := Lib.hid (H2.out w1 hb1)
  clear hp1 hd1 hA1 hn1 hb1
  go_wp2_with fail
  refine H2b.out.mono ?_
  rintro e w2 ⟨Y0, a2, c2, rfl, hp2, hd2, hA2, hn2, hb2⟩
  have HI := Lib.hid (show ∃ X Y P Q, WcI A0 B0 w2.heap.size w (.slice a1 X0.length c1) (.slice a2 Y0.length c2) (.slice none 0 0) (.slice none 0 0) X Y P Q w2 from by
    obtain ⟨hp1, hd1, hA1, hn1, hb1⟩ := HX.out
    have hb12 : Below w.heap.size w w2 := hb1.trans (hb2.mono hb1.size)
    refine ⟨X0, Y0, [], [], ⟨⟨⟨a1, c1, rfl, (hA1.below hb2).mono hb2.size, hn1⟩, hd1, fun t ht => hsa t (hp1.mem_iff.1 ht)⟩, ⟨⟨a2, c2, rfl, hA2, hn2⟩, hd2, fun t ht => hsb t (hp2.mem_iff.1 ht)⟩, OA.nil _ _, OA.nil _ _, fun g hg => by simp [Value.ownBlock] at hg, ⟨fun z => ?_, fun z => ?_⟩, ?_, ?_, hb12, hb12.size, Nat.le_refl _⟩⟩
    · simp [sub, hp1.count_eq, hp2.count_eq]
    · simp [sub, hp1.count_eq, hp2.count_eq]
    · rw [hp1.length_eq]; simp
    · rw [hp2.length_eq]; simp)
  clear HX H1 H2 H2b hp2 hd2 hA2 hn2 hb2
  go_wp2
  go_loopw [0, 1, 4, 5] (fun av bv ov pv wr => ∃ X Y P Q, WcI A0 B0 w2.heap.size w av bv ov pv X Y P Q wr) (fun av bv _ _ _ => lenV av + lenV bv)
  case atStart => exact HI.out
  case round =>
    obtain ⟨X, Y, P, Q, hI⟩ := hrel
    have HI2 := Lib.hid hI
    obtain ⟨⟨⟨a1', c1', rfl, hXa, hXn⟩, _, hXs⟩, ⟨⟨a2', c2', rfl, hYa, hYn⟩, _, hYs⟩, _, _, _, _, hl1, hl2, _, hnn1, hnn2⟩ := hI
    have HXA := Lib.hid (And.intro hXa (And.intro hXn hXs))
    have HYA := Lib.hid (And.intro hYa (And.intro hYn hYs))
    have hxc : X.length ≤ c1' ∧ c1' ≤ maxLen := ⟨hXa.1, hXa.2.1⟩
    have hyc : Y.length ≤ c2' ∧ c2' ≤ maxLen := ⟨hYa.1, hYa.2.1⟩
    unfold maxLen at hxc hyc
    clear hXa hXn hXs hYa hYn hYs HI
    cases X with
    | nil =>
      have hfin := HI2.out.c.fin (.inl rfl)
      have HFIN := Lib.hid hfin
      clear hfin
      go_wp2_with (at_builtin; refine stopHere ?_)
      refine Lib.hid ?_
      refine wpList_append_ts rfl _ _ rfl w2.heap.size _ P rfl HI2.out.p HI2.out.n.2 [] _ _ rfl (Src.of_args HXA.out.1 HXA.out.2.1) (by have := HI2.out.l1; omega) ?_
      intro v5 w5 hO5 hg5 hv5
      obtain ⟨_, _, k3, k4, k5, k6, k7⟩ := HI2.out.grow hO5 hg5 hv5
      have HO5 := Lib.hid hO5
      have K := Lib.hid (And.intro k3 (And.intro k4 (And.intro k5 (And.intro k6 k7))))
      clear hO5 hg5 hv5 k3 k4 k5 k6 k7
      go_wp2_with (at_builtin; refine stopHere ?_)
      refine Lib.hid ?_
      refine wpList_append_ts rfl _ _ rfl w2.heap.size _ Q rfl K.out.1 K.out.2.2.2.1 Y _ _ rfl (Src.of_args (HYA.out.1.below K.out.2.2.2.2) HYA.out.2.1) (by have := HI2.out.l2; omega) ?_
      intro v6 w6 hO6 hg6 hv6
      have hb56 : Below w2.heap.size w5 w6 := (Below.refl _ w5).grown hg6 K.out.2.2.2.1 (fun k e => (K.out.1.block e).1)
      have hO5' := HO5.out.kept hb56 (fun q e => hg6.block q (HO5.out.block e).2 (fun e' => K.out.2.1 q e e'.symm))
      have hn6 : w2.heap.size ≤ w6.heap.size := Nat.le_trans K.out.2.2.2.1 hg6.size
      obtain ⟨a5, c5, rfl, hA5⟩ := hO5'.args hn6
      obtain ⟨a6, c6, rfl, hA6⟩ := hO6.args hn6
      have HF := Lib.hid (show WcPost A0 B0 w (.returned (.tuple #[.slice a5 (P ++ []).length c5, .slice a6 (Q ++ Y).length c6])) w6 from
        ⟨P ++ [], Q ++ Y, a5, c5, a6, c6, rfl, HFIN.out.1, HFIN.out.2, hA5, hA6, by have := HI2.out.l1; simp at this ⊢; omega, by have := HI2.out.l2; simp at this ⊢; omega, K.out.2.2.1.trans (hb56.mono HI2.out.n.1)⟩)
      clear hO6 hg6 hv6 hb56 hO5' hn6 hA5 hA6
      go_wp2
      refine bodyPost_ret (v := .tuple #[.slice a5 (P ++ []).length c5, .slice a6 (Q ++ Y).length c6]) (by simp [results, Tryz.results58, go_sem]) rfl ?_
      exact HF.out
    | cons x X =>
      cases Y with
      | nil =>
        have hp1 : (0 : Int) < (((x :: X).length : Nat) : Int) := by simp
        have hfin := HI2.out.c.fin (.inr rfl)
        have HFIN := Lib.hid hfin
        clear hfin
        go_wp2_with (at_builtin; refine stopHere ?_)
        refine Lib.hid ?_
        refine wpList_append_ts rfl _ _ rfl w2.heap.size _ P rfl HI2.out.p HI2.out.n.2 (x :: X) _ _ rfl (Src.of_args HXA.out.1 HXA.out.2.1) (by have := HI2.out.l1; omega) ?_
        intro v5 w5 hO5 hg5 hv5
        obtain ⟨_, _, k3, k4, k5, k6, k7⟩ := HI2.out.grow hO5 hg5 hv5
        have HO5 := Lib.hid hO5
        have K := Lib.hid (And.intro k3 (And.intro k4 (And.intro k5 (And.intro k6 k7))))
        clear hO5 hg5 hv5 k3 k4 k5 k6 k7
        go_wp2_with (at_builtin; refine stopHere ?_)
        refine Lib.hid ?_
        refine wpList_append_ts rfl _ _ rfl w2.heap.size _ Q rfl K.out.1 K.out.2.2.2.1 [] _ _ rfl (Src.of_args (HYA.out.1.below K.out.2.2.2.2) HYA.out.2.1) (by have := HI2.out.l2; omega) ?_
        intro v6 w6 hO6 hg6 hv6
        have hb56 : Below w2.heap.size w5 w6 := (Below.refl _ w5).grown hg6 K.out.2.2.2.1 (fun k e => (K.out.1.block e).1)
        have hO5' := HO5.out.kept hb56 (fun q e => hg6.block q (HO5.out.block e).2 (fun e' => K.out.2.1 q e e'.symm))
        have hn6 : w2.heap.size ≤ w6.heap.size := Nat.le_trans K.out.2.2.2.1 hg6.size
        obtain ⟨a5, c5, rfl, hA5⟩ := hO5'.args hn6
        obtain ⟨a6, c6, rfl, hA6⟩ := hO6.args hn6
        have HF := Lib.hid (show WcPost A0 B0 w (.returned (.tuple #[.slice a5 (P ++ (x :: X)).length c5, .slice a6 (Q ++ []).length c6])) w6 from
          ⟨P ++ (x :: X), Q ++ [], a5, c5, a6, c6, rfl, HFIN.out.1, HFIN.out.2, hA5, hA6, by have := HI2.out.l1; simp at this ⊢; omega, by have := HI2.out.l2; simp at this ⊢; omega, K.out.2.2.1.trans (hb56.mono HI2.out.n.1)⟩)
        clear hO6 hg6 hv6 hb56 hO5' hn6 hA5 hA6
        go_wp2
        refine bodyPost_ret (v := .tuple #[.slice a5 (P ++ (x :: X)).length c5, .slice a6 (Q ++ []).length c6]) (by simp [results, Tryz.results58, go_sem]) rfl ?_
        exact HF.out
      | cons y Y =>
        obtain ⟨b1, o1, x', e1, f1, rfl, hb1, hx1, hxw, hxc0, hxc1, hxA⟩ := HXA.out.1.elem (i := 0) (by simp)
        obtain ⟨b2, o2, y', e2, f2, rfl, hb2, hy1, hyw, hyc0, hyc1, hyA⟩ := HYA.out.1.elem (i := 0) (by simp)
        simp only [List.getElem?_cons_zero, Option.some.injEq] at hx1 hy1
        subst hx1 hy1
        simp only [Nat.zero_mul, Nat.add_zero] at hxc0 hxc1 hyc0 hyc1
        have hb1w : b1 < wr.heap.size := by omega
        have hb2w : b2 < wr.heap.size := by omega
        have HC := Lib.hid (compare_any x y (HXA.out.2.2 x (List.mem_cons_self ..)) (HYA.out.2.2 y (List.mem_cons_self ..)) w2.heap.size e1 f1 e2 f2 wr.drew hnn2 hxw hyw (hxA.below (Below.refl _ _).drew) (hyA.below (Below.refl _ _).drew))
        have HXW := Lib.hid (And.intro hxw hxA)
        have HYW := Lib.hid (And.intro hyw hyA)
        have hp1 : (0 : Int) < (((x :: X).length : Nat) : Int) := by simp
        have hp2 : (0 : Int) < (((y :: Y).length : Nat) : Int) := by simp
        clear hxA hyA hxw hyw
        go_wp2
        go_still_tail 6, (by kernel_rfl)
        change wpList _ _ _ _ _ wr.drew
        go_wp2_with fail
        refine HC.out.mono ?_
        rintro e w3 ⟨rfl, hb3⟩
        have hB3 : Below wr.heap.size wr w3 := (Below.refl _ _).drew.trans hb3
        have HB3 := Lib.hid hB3
        have gx0 : w3.cell? ⟨b1, o1, none⟩ = some (.int .i64 x.head) := (hB3.cell (p := ⟨b1, o1, none⟩) hb1w).trans hxc0
        have gx1 : w3.cell? ⟨b1, o1 + 1, none⟩ = some (.slice e1 x.args.length f1) := (hB3.cell (p := ⟨b1, o1 + 1, none⟩) hb1w).trans hxc1
        have gy0 : w3.cell? ⟨b2, o2, none⟩ = some (.int .i64 y.head) := (hB3.cell (p := ⟨b2, o2, none⟩) hb2w).trans hyc0
        have gy1 : w3.cell? ⟨b2, o2 + 1, none⟩ = some (.slice e2 y.args.length f2) := (hB3.cell (p := ⟨b2, o2 + 1, none⟩) hb2w).trans hyc1
        have hb1w' : b1 < w3.heap.size := Nat.lt_of_lt_of_le hb1w hB3.size
        have hb2w' : b2 < w3.heap.size := Nat.lt_of_lt_of_le hb2w hB3.size
        have hxl : (1 : Int) ≤ ((X.length : Nat) : Int) + 1 := by omega
        have hyl : (1 : Int) ≤ ((Y.length : Nat) : Int) + 1 := by omega
        clear hb3 hB3 hxc0 hxc1 hyc0 hyc1 hb1w hb2w
        obtain ⟨r, hr⟩ : ∃ r, T.cmp x y = r := ⟨_, rfl⟩
        have HR := Lib.hid hr
        rw [hr]
        clear hr
        by_cases r1 : 0 < r
        · have hni := desc_not HI2.out.y.desc (by rw [HR.out]; exact r1)
          have HNI := Lib.hid hni
          have hal : Below wr.heap.size wr (w3.alloc (.cells #[.int .i64 x.head, .slice e1 x.args.length f1] 42)) := HB3.out.alloc HB3.out.size _
          have HI4 := Lib.hid (HI2.out.later hal)
          have hsrc : Src w2.heap.size (w3.alloc (.cells #[.int .i64 x.head, .slice e1 x.args.length f1] 42)) [x] (some ⟨w3.heap.size, 0, none⟩) 1 :=
            Src.of_one HXW.out.1 (HXW.out.2.below (hal.mono hnn2)) w3.heap.size (by simp [go_sem]) (by simp [go_sem])
          have HSRC := Lib.hid hsrc
          clear hni hal hsrc
          go_wp2_with (at_builtin; refine stopHere ?_)
          refine Lib.hid ?_
          refine wpList_append_ts rfl _ _ rfl w2.heap.size _ P rfl HI4.out.p HI4.out.n.2 [x] _ _ rfl HSRC.out (by have := HI4.out.l1; simp at this ⊢; omega) ?_
          intro v5 w5 hO5 hg5 hv5
          have hI6 := HI4.out.more (c1 := c1') (HNI.out) hO5 hg5 hv5
          clear hO5 hg5 hv5
          by_cases z1 : c1' = 1
          · subst z1
            rw [if_pos rfl] at hI6
            have HI6 := Lib.hid hI6
            clear hI6
            go_wp2
            go_roundw
            case rel => exact ⟨X, y :: Y, P ++ [x], Q, HI6.out⟩
            case measure => simp [lenV]
          · rw [if_neg z1] at hI6
            have HI6 := Lib.hid hI6
            clear hI6
            go_wp2
            go_roundw
            case rel => exact ⟨X, y :: Y, P ++ [x], Q, HI6.out⟩
            case measure => simp [lenV]
        · by_cases r2 : r < 0
          · have hni := desc_not' HI2.out.x.desc (by rw [HR.out]; exact r2)
            have HNI := Lib.hid hni
            have hal : Below wr.heap.size wr (w3.alloc (.cells #[.int .i64 y.head, .slice e2 y.args.length f2] 42)) := HB3.out.alloc HB3.out.size _
            have HI4 := Lib.hid (HI2.out.later hal)
            have hsrc : Src w2.heap.size (w3.alloc (.cells #[.int .i64 y.head, .slice e2 y.args.length f2] 42)) [y] (some ⟨w3.heap.size, 0, none⟩) 1 :=
              Src.of_one HYW.out.1 (HYW.out.2.below (hal.mono hnn2)) w3.heap.size (by simp [go_sem]) (by simp [go_sem])
            have HSRC := Lib.hid hsrc
            clear hni hal hsrc
            go_wp2_with (at_builtin; refine stopHere ?_)
            refine Lib.hid ?_
            refine wpList_append_ts rfl _ _ rfl w2.heap.size _ Q rfl HI4.out.swap.p HI4.out.swap.n.2 [y] _ _ rfl HSRC.out (by have := HI4.out.l2; simp at this ⊢; omega) ?_
            intro v5 w5 hO5 hg5 hv5
            have hI6 := HI4.out.swap.more (c1 := c2') (HNI.out) hO5 hg5 hv5
            clear hO5 hg5 hv5
            by_cases z1 : c2' = 1
            · subst z1
              rw [if_pos rfl] at hI6
              have HI6 := Lib.hid hI6
              clear hI6
              go_wp2
              go_roundw
              case rel => exact ⟨x :: X, Y, P, Q ++ [y], HI6.out.swap⟩
              case measure => simp [lenV]
            · rw [if_neg z1] at hI6
              have HI6 := Lib.hid hI6
              clear hI6
              go_wp2
              go_roundw
              case rel => exact ⟨x :: X, Y, P, Q ++ [y], HI6.out.swap⟩
              case measure => simp [lenV]
          · have r3 : r = 0 := by omega
            have HXY := Lib.hid (T.cmp_zero.1 (HR.out.trans r3))
            subst r3
            clear r1 r2
            have hxy := HXY.out
            subst hxy
            have hI3 := (HI2.out.later HB3.out).both
            by_cases z1 : c1' = 1
            · by_cases z2 : c2' = 1
              · subst z1 z2
                rw [if_pos rfl, if_pos rfl] at hI3
                have HI3 := Lib.hid hI3
                clear hI3
                go_wp2
                go_quiet (fail)
                go_wp2
                go_roundw
                case rel => exact ⟨X, Y, P, Q, HI3.out.later (bl_drew _ _)⟩
                case measure => simp [lenV]; omega
              · subst z1
                rw [if_pos rfl, if_neg z2] at hI3
                have HI3 := Lib.hid hI3
                clear hI3
                go_wp2
                go_quiet (fail)
                go_wp2
                go_roundw
                case rel => exact ⟨X, Y, P, Q, HI3.out.later (bl_drew _ _)⟩
                case measure => simp [lenV]; omega
            · by_cases z2 : c2' = 1
              · subst z2
                rw [if_neg z1, if_pos rfl] at hI3
                have HI3 := Lib.hid hI3
                clear hI3
                go_wp2
                go_quiet (fail)
                go_wp2
                go_roundw
                case rel => exact ⟨X, Y, P, Q, HI3.out.later (bl_drew _ _)⟩
                case measure => simp [lenV]; omega
              · rw [if_neg z1, if_neg z2] at hI3
                have HI3 := Lib.hid hI3
                clear hI3
                go_wp2
                go_quiet (fail)
                go_wp2
                go_roundw
                case rel => exact ⟨X, Y, P, Q, HI3.out.later (bl_drew _ _)⟩
                case measure => simp [lenV]; omega
end Go.Proofs.YtpncmdlbmnmahaaGreat
