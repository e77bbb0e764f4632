/- Contracts of match's Match and Variant. -/
import Derived.Test.YtjebfmcgenhchaaMt3
import Derived.Test.YtjebfmcgenhchaaAwC
namespace Go.Proofs.Ytjebfmcgenhchaa
set_option linter.unusedVariables false
set_option linter.unusedSimpArgs false
open Go.RowKit Go.Maps

theorem alone_mem {b : Nat} {x : T} {a : Option Addr} {c : Nat} {X : World} (hx : Cs b [.int .i64 x.head, .slice a x.args.length c] X) (hxw : (Lit.int .i64 x.head).wf = true) (hA : IsArgs X.heap.size X x.args a c) : IsArgs X.heap.size X [x] (some ⟨b, 0, none⟩) 1 := by
  obtain ⟨hx, cx⟩ := hx
  exact ⟨by simp, by simp [maxLen], .inr ⟨b, 0, rfl, hx, isT_iff.2 ⟨hxw, cx 0 _ rfl, _, _, cx 1 _ rfl, hA⟩, trivial⟩⟩
theorem exts_one (p t : T) (M : Sb) : T.exts [p] [t] M = p.ext t M := by
  rw [T.exts_cons]; cases p.ext t M <;> rfl
/-- What Match answers. -/
def MtR (p t : T) (s : Sb) (b : Bool) (k : Int) : Prop :=
  ((p.check ≠ 0 ∨ t.check ≠ 0) ∧ s = [] ∧ b = false ∧ k = 1) ∨
  ((p.check = 0 ∧ t.check = 0) ∧ ((p.ext t [] = none ∧ s = [] ∧ b = false ∧ k = 0) ∨ ∃ M, p.ext t [] = some M ∧ s = sm M ∧ b = true ∧ k = 0))
theorem matR_one {p t : T} {s : Sb} {b : Bool} {k : Int} (h : MatR [p] [t] s b k) : MtR p t s b k := by
  unfold MatR at h
  rw [badL_one, badL_one, exts_one] at h
  rcases h with ⟨h, h'⟩ | ⟨⟨_, h1, h2⟩, h'⟩
  · refine .inl ⟨?_, h'⟩
    rcases h with h | h | h
    · simp at h
    · exact .inl (by simpa using h)
    · exact .inr (by simpa using h)
  · exact .inr ⟨⟨by simpa using h1, by simpa using h2⟩, h'⟩
def MtPost (p t : T) (w : World) (e : Ending) (w' : World) : Prop := ∃ (s : Sb) (b : Bool) (k : Int) (a : Option Addr) (c : Nat), e = .returned (.tuple #[.slice a s.length c, .bool b, .int .i64 k]) ∧ IsBs w'.heap.size w' s a c ∧ Below w.heap.size w w' ∧ MtR p t s b k

set_option maxRecDepth 100000 in
set_option maxHeartbeats 2000000 in
theorem match_any (p t : T) (hps : p.size ≤ 100000) (hts : t.size ≤ 100000) (n₀ : Nat) (a : Option Addr) (c : Nat) (a' : Option Addr) (c' : Nat) (w : World) (hn : n₀ ≤ w.heap.size) (hpw : (Lit.int .i64 p.head).wf = true) (htw : (Lit.int .i64 t.head).wf = true) (hA : IsArgs n₀ w p.args a c) (hA' : IsArgs n₀ w t.args a' c') :
    Calls Try.prog 40 #[tm p.head a p.args.length c, tm t.head a' t.args.length c'] w (MtPost p t w) := by
  have HPW := Lib.hid hpw
  have HTW := Lib.hid htw
  have d0 := ((((Later.below (Below.refl _ w)).and (later_args (hA'.mono hn))).and (later_args (hA.mono hn))).push (Below.refl _ _) p.head a p.args.length c).push (Below.refl _ _) t.head a' t.args.length c'
  rw [heap_alloc_size] at d0
  have D := Lib.hid d0
  clear hpw htw hA hA' d0
  go_enter Try.func40, Try.ntmps40
  go_wp2_with fail
  have hsz : ((w.alloc (.cells #[.int .i64 p.head, .slice a p.args.length c] 24)).alloc (.cells #[.int .i64 t.head, .slice a' t.args.length c'] 24)).heap.size = w.heap.size + 1 + 1 := by simp
  generalize (w.alloc (.cells #[.int .i64 p.head, .slice a p.args.length c] 24)).alloc (.cells #[.int .i64 t.head, .slice a' t.args.length c'] 24) = wB at D hsz ⊢
  have d1 := (D.out.pushC (Below.refl _ _) #[.int .i64 p.head, .slice a p.args.length c] 24).pushC (Below.refl _ _) #[.int .i64 t.head, .slice a' t.args.length c'] 24
  rw [heap_alloc_size, hsz] at d1
  have D1 := Lib.hid d1
  clear d1 hsz D
  generalize (wB.alloc (.cells #[.int .i64 p.head, .slice a p.args.length c] 24)).alloc (.cells #[.int .i64 t.head, .slice a' t.args.length c'] 24) = w1 at D1 ⊢
  refine (matAll_any [p] [t] (by simp [T.sizes]; omega) (by simp [T.sizes]; omega) w1.heap.size _ 1 _ 1 w1 (Nat.le_refl _) (alone_mem D1.out.now.2.1 HPW.out D1.out.now.2.2.2.2.1) (alone_mem D1.out.now.1 HTW.out D1.out.now.2.2.2.2.2.1)).mono ?_
  rintro e w2 ⟨s, b, k, hR, a2, c2, rfl, hS, hb⟩
  have HS := Lib.hid hS
  have HR := Lib.hid (matR_one hR)
  have HB := Lib.hid (D1.out w2 hb).2.2.2.2.2.2
  clear hS hR hb D1
  go_wp2
  refine bodyPost_ret (v := .tuple #[.slice a2 s.length c2, .bool b, .int .i64 k]) (by simp [results, Try.results40, go_sem]) rfl ?_
  exact ⟨s, b, k, a2, c2, rfl, HS.out, HB.out, HR.out⟩

def VarR (a b : T) (x : Bool) (k : Int) : Prop :=
  ((a.check ≠ 0 ∨ b.check ≠ 0) ∧ x = false ∧ k = 1) ∨ ((a.check = 0 ∧ b.check = 0) ∧ x = ((a.ext b []).isSome && (b.ext a []).isSome) ∧ k = 0)
def VarPost (a b : T) (w : World) (e : Ending) (w' : World) : Prop := ∃ (x : Bool) (k : Int), e = .returned (.tuple #[.bool x, .int .i64 k]) ∧ Below w.heap.size w w' ∧ VarR a b x k

set_option maxRecDepth 100000 in
set_option maxHeartbeats 4000000 in
theorem variant_any (x y : T) (hxs : x.size ≤ 100000) (hys : y.size ≤ 100000) (n₀ : Nat) (a : Option Addr) (c : Nat) (a' : Option Addr) (c' : Nat) (w : World) (hn : n₀ ≤ w.heap.size) (hxw : (Lit.int .i64 x.head).wf = true) (hyw : (Lit.int .i64 y.head).wf = true) (hA : IsArgs n₀ w x.args a c) (hA' : IsArgs n₀ w y.args a' c') :
    Calls Try.prog 35 #[tm x.head a x.args.length c, tm y.head a' y.args.length c'] w (VarPost x y w) := by
  have HXW := Lib.hid hxw
  have HYW := Lib.hid hyw
  have d0 := ((((Later.below (Below.refl _ w)).and (later_args (hA'.mono hn))).and (later_args (hA.mono hn))).push (Below.refl _ _) x.head a x.args.length c).push (Below.refl _ _) y.head a' y.args.length c'
  rw [heap_alloc_size] at d0
  have D := Lib.hid d0
  clear hxw hyw hA hA' d0
  have hmm := run_makeMatcher
  go_enter Try.func35, Try.ntmps35
  go_wp2_with fail
  generalize (w.alloc (.cells #[.int .i64 x.head, .slice a x.args.length c] 24)).alloc (.cells #[.int .i64 y.head, .slice a' y.args.length c'] 24) = w1 at D ⊢
  generalize hb0 : w.heap.size = b0 at D ⊢
  have HB0 := Lib.hid hb0
  clear hb0
  refine (mNotValid_any x (by omega) w1.heap.size a c w1 (Nat.le_refl _) HXW.out D.out.now.2.2.1).mono ?_
  rintro e w2 ⟨rfl, hb⟩
  have D2 := Lib.hid (D.out.mv hb)
  clear hb D
  by_cases q1 : x.check = 0
  case neg =>
    rw [decide_eq_true (show x.check ≠ 0 from q1)]
    have Q1 := Lib.hid q1
    have HQ := Lib.hid D2.out.now.2.2.2.2
    clear q1 D2
    go_wp2
    refine bodyPost_ret (v := .tuple #[.bool false, .int .i64 1]) (by simp [results, Try.results35, go_sem]) rfl ?_
    exact ⟨false, 1, rfl, by rw [HB0.out]; exact HQ.out, .inl ⟨.inl Q1.out, rfl, rfl⟩⟩
  rw [decide_eq_false (show ¬ x.check ≠ 0 from fun h => h q1)]
  have Q1 := Lib.hid q1
  clear q1
  obtain ⟨⟨y0, y1⟩, ⟨x0, x1⟩, _⟩ := D2.out.now
  go_wp2_with fail
  clear y0 y1 x0 x1
  refine (mNotValid_any y (by omega) w2.heap.size a' c' w2 (Nat.le_refl _) HYW.out D2.out.now.2.2.2.1).mono ?_
  rintro e w3 ⟨rfl, hb⟩
  have D3 := Lib.hid (D2.out.mv hb)
  clear hb D2
  by_cases q2 : y.check = 0
  case neg =>
    rw [decide_eq_true (show y.check ≠ 0 from q2)]
    have Q2 := Lib.hid q2
    have HQ := Lib.hid D3.out.now.2.2.2.2
    clear q2 D3
    go_wp2
    refine bodyPost_ret (v := .tuple #[.bool false, .int .i64 1]) (by simp [results, Try.results35, go_sem]) rfl ?_
    exact ⟨false, 1, rfl, by rw [HB0.out]; exact HQ.out, .inl ⟨.inr Q2.out, rfl, rfl⟩⟩
  rw [decide_eq_false (show ¬ y.check ≠ 0 from fun h => h q2)]
  have Q2 := Lib.hid q2
  clear q2
  have hB4 : Below w3.heap.size w3 (w3.alloc (.map #[] 0)) := (Below.refl _ _).alloc (Nat.le_refl _) _
  have HB4 := Lib.hid hB4
  have HTE := Lib.hid (tab_empty w3.heap.size w3)
  have LA := Lib.hid (show IsArgs w3.heap.size (w3.alloc (.map #[] 0)) x.args a c ∧ IsArgs w3.heap.size (w3.alloc (.map #[] 0)) y.args a' c' from ⟨D3.out.now.2.2.1.below hB4, D3.out.now.2.2.2.1.below hB4⟩)
  obtain ⟨⟨y0, y1⟩, ⟨x0, x1⟩, _⟩ := D3.out _ hB4
  clear hB4
  go_wp2_with fail
  clear y0 y1 x0 x1
  have hz4 : (w3.alloc (.map #[] 0)).heap.size = w3.heap.size + 1 := by simp
  generalize w3.alloc (.map #[] 0) = w4 at HB4 HTE LA hz4 ⊢
  refine (extend_any x.size x (Nat.le_refl _) (by omega) y (by omega) [] (by simp; omega) (by simp) w3.heap.size w3.heap.size a c a' c' w4 (Nat.le_refl _) HTE.out HXW.out HYW.out LA.out.1 LA.out.2).mono ?_
  rintro e w5 ⟨hg5, h5⟩
  have hB5 := HB4.out.trans (grown_below hg5 (Nat.le_refl _) (by omega))
  have D5 := Lib.hid (D3.out.mv hB5)
  clear hg5 hB5 D3 HTE LA HB4 hz4
  rcases h5 with ⟨M', hM, rfl, _⟩ | ⟨hM, rfl⟩
  case inr =>
    have HQ := Lib.hid D5.out.now.2.2.2.2
    have HM := Lib.hid hM
    clear hM D5
    go_wp2
    refine bodyPost_ret (v := .tuple #[.bool false, .int .i64 0]) (by simp [results, Try.results35, go_sem]) rfl ?_
    exact ⟨false, 0, rfl, by rw [HB0.out]; exact HQ.out, .inr ⟨⟨Q1.out, Q2.out⟩, by rw [HM.out]; rfl, rfl⟩⟩
  have HM := Lib.hid hM
  clear hM
  have hB6 : Below w5.heap.size w5 (w5.alloc (.map #[] 0)) := (Below.refl _ _).alloc (Nat.le_refl _) _
  have HB6 := Lib.hid hB6
  have HTE := Lib.hid (tab_empty w5.heap.size w5)
  have LA := Lib.hid (show IsArgs w5.heap.size (w5.alloc (.map #[] 0)) x.args a c ∧ IsArgs w5.heap.size (w5.alloc (.map #[] 0)) y.args a' c' from ⟨D5.out.now.2.2.1.below hB6, D5.out.now.2.2.2.1.below hB6⟩)
  obtain ⟨⟨y0, y1⟩, ⟨x0, x1⟩, _⟩ := D5.out _ hB6
  clear hB6
  go_wp2_with fail
  clear y0 y1 x0 x1
  have hz6 : (w5.alloc (.map #[] 0)).heap.size = w5.heap.size + 1 := by simp
  generalize w5.alloc (.map #[] 0) = w6 at HB6 HTE LA hz6 ⊢
  refine (extend_any y.size y (Nat.le_refl _) (by omega) x (by omega) [] (by simp; omega) (by simp) w5.heap.size w5.heap.size a' c' a c w6 (Nat.le_refl _) HTE.out HYW.out HXW.out LA.out.2 LA.out.1).mono ?_
  rintro e w7 ⟨hg7, h7⟩
  have hB7 := HB6.out.trans (grown_below hg7 (Nat.le_refl _) (by omega))
  have HQ := Lib.hid (D5.out w7 hB7).2.2.2.2
  clear hg7 hB7 D5 HTE LA HB6 hz6
  rcases h7 with ⟨M2, hM2, rfl, _⟩ | ⟨hM2, rfl⟩
  · have HM2 := Lib.hid hM2
    clear hM2
    go_wp2
    refine bodyPost_ret (v := .tuple #[.bool true, .int .i64 0]) (by simp [results, Try.results35, go_sem]) rfl ?_
    exact ⟨true, 0, rfl, by rw [HB0.out]; exact HQ.out, .inr ⟨⟨Q1.out, Q2.out⟩, by rw [HM.out, HM2.out]; rfl, rfl⟩⟩
  · have HM2 := Lib.hid hM2
    clear hM2
    go_wp2
    refine bodyPost_ret (v := .tuple #[.bool false, .int .i64 0]) (by simp [results, Try.results35, go_sem]) rfl ?_
    exact ⟨false, 0, rfl, by rw [HB0.out]; exact HQ.out, .inr ⟨⟨Q1.out, Q2.out⟩, by rw [HM.out, HM2.out]; rfl, rfl⟩⟩

end Go.Proofs.Ytjebfmcgenhchaa
