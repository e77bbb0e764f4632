/- Q5a: joined of Law3, FewS, WKPu. -/
import Derived.Test.YtbfanbaijombaaaQ1a
import Derived.Test.YtbfanbaijombaaaQ1i
import Derived.Test.YtbfanbaijombaaaQ1c
import Derived.Test.YtbfanbaijombaaaQ1o
import Derived.Test.YtbfanbaijombaaaQ1p
import Derived.Test.YtbfanbaijombaaaQ3d
/- Reading lists of bindings out of memory. -/
namespace Go.Proofs.Ytbfanbaijombaaa
set_option linter.unusedVariables false
set_option linter.unusedSimpArgs false
set_option maxRecDepth 100000
open Go.ChangeShapes Go.WideShapes Go.ChangeAt Go.RowKit Go.Joins

theorem cellsBind : Try.prog.cellsOf 78 = 3 := by kernel_rfl

section
variable {H : Type} {enc : TypeId × Value → H} {w : World} {sp : Nat → Bool} {hd : Bool}

theorem trod_bind {n : Nat} {cs : List Value} {x : DataW H × List MemPlace} (h : DataW.trod enc Try.prog w 0 sp hd n 78 cs = some x) :
    ∃ (v : Int) (t : T) (a : Option Addr) (c : Nat), cs = [.int .i64 v, .int .i64 t.head, .slice a t.args.length c] ∧ (Lit.int .i64 v).wf = true ∧ (Lit.int .i64 t.head).wf = true ∧ IsArgs w.heap.size w t.args a c := by
  obtain ⟨xs, m, hm, _, hl, hxs, hf⟩ := DataW.trod_struct Try.underlying78 h
  rw [cellsBind] at hl
  match cs, hl with
  | [c0, c1, c2], _ =>
    match xs, hxs with
    | [y0, y1], _ =>
      have h0 := hf 0 _ rfl
      have h1 := hf 1 _ rfl
      simp [cellsInt, cellsTerm] at h0 h1
      obtain ⟨k, e0, _, wf⟩ := DataW.trod_int Try.underlying3 h0
      obtain ⟨t, a, c, e1, wf', hA⟩ := (trod_terms _).1 h1
      simp at e0 e1
      obtain ⟨rfl, rfl⟩ := e1
      subst e0
      exact ⟨k, t, a, c, rfl, wf, wf', hA⟩

theorem trod_bs {n : Nat} {cs : List Value} {x : DataW H × List MemPlace} (h : DataW.trod enc Try.prog w 0 sp hd n 44 cs = some x) : ∃ (s : Sb) (a : Option Addr) (c : Nat), cs = [.slice a s.length c] ∧ IsBs w.heap.size w s a c := by
  rcases DataW.trod_slice Try.underlying44 h with ⟨rfl, _⟩ | ⟨a, len, cap, elems, rest, m, hm, rfl, _, _, hlc, hcm, hel, hcell, _, _⟩
  · exact ⟨[], none, 0, rfl, ⟨Nat.le_refl _, by simp [maxLen], .inl rfl⟩⟩
  · cases len with
    | zero => exact ⟨[], some a, cap, rfl, ⟨hlc, hcm, .inl rfl⟩⟩
    | succ len =>
      have each : ∀ i, i < len + 1 → ∃ (v : Int) (t : T) (a' : Option Addr) (c : Nat), w.cell? ((a.add (i * 3)).add 0) = some (.int .i64 v) ∧ w.cell? ((a.add (i * 3)).add 1) = some (.int .i64 t.head) ∧ w.cell? ((a.add (i * 3)).add 2) = some (.slice a' t.args.length c) ∧ (Lit.int .i64 v).wf = true ∧ (Lit.int .i64 t.head).wf = true ∧ IsArgs w.heap.size w t.args a' c := by
        intro i hi
        have h1 := hcell i hi
        rw [List.getElem?_eq_getElem (by omega), cellsBind, Option.bind_eq_some_iff] at h1
        obtain ⟨cs, hcs, ht⟩ := h1
        obtain ⟨v, t, a', c, rfl, wf, wf', hA⟩ := trod_bind ht
        refine ⟨v, t, a', c, ?_, ?_, ?_, wf, wf', hA⟩
        · exact mapM_some_get (by simpa [World.cells?] using hcs) 0 0 rfl
        · exact mapM_some_get (by simpa [World.cells?] using hcs) 1 1 rfl
        · exact mapM_some_get (by simpa [World.cells?] using hcs) 2 2 rfl
      obtain ⟨b, o, spot⟩ := a
      have hspot : spot = none := by
        obtain ⟨v, t, a', c, h1, _⟩ := each 0 (by omega)
        cases spot with
        | none => rfl
        | some k => unfold World.cell? at h1; simp [Addr.add] at h1; split at h1 <;> simp at h1
      subst hspot
      simp only [add_none, Nat.add_zero] at each
      have hlt : b < w.heap.size := by
        obtain ⟨v, t, a', c, h1, _⟩ := each 0 (by omega)
        exact lt_of_cell h1
      have hall : ∀ (n o : Nat), (∀ i, i < n → ∃ x : Int × T, IsB w.heap.size w x b (o + i * 3)) → ∃ s : Sb, s.length = n ∧ ∀ (j : Nat) (x : Int × T), s[j]? = some x → IsB w.heap.size w x b (o + j * 3) := by
        intro n
        induction n with
        | zero => intro o _; exact ⟨[], rfl, by simp⟩
        | succ n ih =>
          intro o h
          obtain ⟨z, hz⟩ := h 0 (by omega)
          obtain ⟨zs, hl, hr⟩ := ih (o + 3) (fun i hi => by
            obtain ⟨y, hy⟩ := h (i + 1) (by omega)
            exact ⟨y, by rw [show o + 3 + i * 3 = o + (i + 1) * 3 from by omega]; exact hy⟩)
          refine ⟨z :: zs, by simp [hl], fun j y hj => ?_⟩
          cases j with
          | zero => simp at hj; subst hj; simpa using hz
          | succ j => rw [show o + (j + 1) * 3 = o + 3 + j * 3 from by omega]; exact hr j y (by simpa using hj)
      obtain ⟨s, hl, hr⟩ := hall (len + 1) o (fun i hi => by
        obtain ⟨v, t, a', c, h0, h1, h2, wf, wf', hA⟩ := each i hi
        exact ⟨(v, t), wf, h0, isT_iff.2 ⟨wf', h1, a', c, h2, hA⟩⟩)
      exact ⟨s, some ⟨b, o, none⟩, cap, by rw [hl], ⟨by omega, hcm, .inr ⟨b, o, rfl, hlt, hr⟩⟩⟩

/-- An argument of type []Bind. -/
theorem open_bs {r : Reach} {b0 : Nat} {v : Value} {d : DataW H} {p : List MemPlace} (hv : Value.okWide Try.prog w r b0 44 v) (h : DataW.Trod enc Try.prog w 0 sp hd 44 v d p) :
    ∃ (s : Sb) (a : Option Addr) (c : Nat), v = .slice a s.length c ∧ IsBs w.heap.size w s a c := by
  obtain ⟨a, len, cap, rfl⟩ := okWide_slice Try.underlying44 hv
  obtain ⟨n, hn⟩ := h
  obtain ⟨s, a', c, e, hA⟩ := trod_bs hn
  simp [Value.cells] at e
  obtain ⟨rfl, rfl, rfl⟩ := e
  exact ⟨s, a, cap, rfl, hA⟩
end

end Go.Proofs.Ytbfanbaijombaaa

/- Contract of the reference's Few of substitutions. -/
namespace Go.Proofs.Ytbfanbaijombaaa
set_option linter.unusedVariables false
set_option linter.unusedSimpArgs false
open Go.RowKit

def FewI (s : Sb) (w : World) (n i : Value) (wr : World) : Prop := ∃ k m : Nat, k ≤ s.length ∧ i = .int .i64 k ∧ n = .int .i64 (m : Int) ∧ m ≤ 1001 ∧ (m ≤ 500 → ∀ j x, j < k → s[j]? = some x → x.2.size ≤ 500) ∧ Below w.heap.size w wr
def FewPost (s : Sb) (w : World) (e : Ending) (w' : World) : Prop := ∃ b : Bool, e = .returned (.bool b) ∧ (b = true → ∀ x ∈ s, x.2.size ≤ 500) ∧ Below w.heap.size w w'

set_option maxRecDepth 100000 in
set_option maxHeartbeats 1000000 in
theorem fewS_any (s : Sb) (n₀ : Nat) (a : Option Addr) (c : Nat) (w : World) (hn : n₀ ≤ w.heap.size) (hS : IsBs n₀ w s a c) :
    Calls Try.prog 20 #[.slice a s.length c] w (FewPost s w) := by
  have hl : s.length ≤ c ∧ c ≤ maxLen := ⟨hS.1, hS.2.1⟩
  unfold maxLen at hl
  obtain ⟨hl1, hl2⟩ := hl
  have HS := Lib.hid hS
  clear hS
  go_enter Try.func20, Try.ntmps20
  go_wp2
  go_loopw [3, 4] (fun n i wr => FewI s w n i wr) (fun _ i _ => s.length - (intOf i).toNat)
  case atStart => exact ⟨0, 0, Nat.zero_le _, rfl, rfl, by omega, fun _ j x h => by omega, Below.refl _ _⟩
  case round =>
    obtain ⟨k, m, hk, rfl, rfl, hm, hall, hB⟩ := hrel
    have HAL := Lib.hid hall
    have HB := Lib.hid hB
    have hbz := hB.size
    clear hall hB
    by_cases hlt : k < s.length
    · have hk0 : (0 : Int) ≤ (k : Int) := Int.natCast_nonneg _
      have hk1 : (k : Int) < (s.length : Int) := by omega
      by_cases q1 : s.length ≤ 10
      · have q1' : (s.length : Int) ≤ 10 := by omega
        by_cases q2 : m ≤ 500
        · have q2' : (m : Int) ≤ 500 := by omega
          obtain ⟨b, o, x, t, a', c', rfl, hbn, hsk, hxw, htw, hc0, hc1, hc2, hA'⟩ := (HS.out.below (HB.out.mono hn)).elem (i := k) hlt
          have HSK := Lib.hid hsk
          have HA' := Lib.hid hA'
          have hnw : n₀ ≤ wr.heap.size := by omega
          clear hsk hxw htw hA'
          go_wp2_with fail
          refine (count_any t.size t (Nat.le_refl _) 500 n₀ a' c' wr (Nat.le_refl _) hnw HA'.out).mono ?_
          rintro e w2 ⟨rfl, hb2⟩
          obtain ⟨q, hq⟩ : ∃ q : Nat, min t.size (500 + 1) = q := ⟨_, rfl⟩
          rw [hq]
          have hq1 : q ≤ 501 := by omega
          have HB2 := Lib.hid (HB.out.trans (hb2.mono HB.out.size))
          have HQ := Lib.hid hq
          clear hb2 hq
          go_wp2
          go_roundw
          case rel =>
            refine ⟨k + 1, m + q, by omega, by go_num, by go_num, by omega, fun h j y hj hy => ?_, HB2.out⟩
            by_cases e : j = k
            · subst e
              rw [HSK.out] at hy
              cases hy
              have := HQ.out
              show t.size ≤ 500
              omega
            · exact HAL.out (by omega) j y (by omega) hy
          case measure => simp [intOf]; omega
        · have q2' : ¬ (m : Int) ≤ 500 := by omega
          go_wp2
          go_ret
          exact ⟨false, rfl, fun h => (by cases h), HB.out⟩
      · have q1' : ¬ (s.length : Int) ≤ 10 := by omega
        go_wp2
        go_ret
        exact ⟨false, rfl, fun h => (by cases h), HB.out⟩
    · have hk1 : ¬ (k : Int) < (s.length : Int) := by omega
      have hend : m ≤ 500 → ∀ x ∈ s, x.2.size ≤ 500 := fun h x hx => by
        obtain ⟨j, hj⟩ := List.getElem?_of_mem hx
        exact HAL.out h j x (by have := (List.getElem?_eq_some_iff.1 hj).1; omega) hj
      have HE := Lib.hid hend
      clear hend
      by_cases q1 : s.length ≤ 10
      · have q1' : (s.length : Int) ≤ 10 := by omega
        by_cases q2 : m ≤ 500
        · have q2' : (m : Int) ≤ 500 := by omega
          go_wp2
          go_ret
          exact ⟨true, rfl, fun _ => HE.out q2, HB.out⟩
        · have q2' : ¬ (m : Int) ≤ 500 := by omega
          go_wp2
          go_ret
          exact ⟨false, rfl, fun h => (by cases h), HB.out⟩
      · have q1' : ¬ (s.length : Int) ≤ 10 := by omega
        go_wp2
        go_ret
        exact ⟨false, rfl, fun h => (by cases h), HB.out⟩

end Go.Proofs.Ytbfanbaijombaaa

/- The walk of KboPuts. -/
namespace Go.Proofs.Ytbfanbaijombaaa
set_option linter.unusedVariables false
set_option linter.unusedSimpArgs false
open Go.RowKit

theorem app_ok8 {s : Sb} {t : T} (h : appE s t = 0) : rightS 0 s = true ∧ t.check = 0 ∧ appT s t = t.sub (ofS s) ∧ (t.sub (ofS s)).check = 0 := by
  unfold appE at h
  split at h
  · rename_i hg
    have := hg
    simp [goodA] at this
    refine ⟨this.1, this.2, ?_, h⟩
    unfold appT endT
    rw [if_pos hg, if_pos h]
  · cases h
theorem appT_small8 (s : Sb) (t : T) : (appT s t).size ≤ 1000000000000 := by
  unfold appT
  by_cases hg : goodA s t = true
  · rw [if_pos hg]
    have := hg
    simp only [goodA, Bool.and_eq_true, decide_eq_true_eq] at this
    have h1 := sub_bound this.1 (check_ok this.2).1
    unfold endT
    by_cases hc : (t.sub (ofS s)).check = 0
    · rw [if_pos hc]; omega
    · rw [if_neg hc]; simp [Z0, T.size, T.sizes]
  · rw [if_neg hg]; simp [Z0, T.size, T.sizes]
theorem puts_fact {g : Sg} {s : Sb} {a b : T} (h1 : errF g [a, b] = 0) (h2 : appE s a = 0) (h3 : appE s b = 0) (h4 : errF g [appT s a, appT s b] = 0) : cmR g a b = 2 ∨ cmR g a b = cmR g (appT s a) (appT s b) := by
  rw [cm_ok h1, cm_ok h4]
  obtain ⟨ha, hb⟩ := errF_two h1
  obtain ⟨hu, hv⟩ := errF_two h4
  obtain ⟨_, _, e1, _⟩ := app_ok8 h2
  obtain ⟨_, _, e2, _⟩ := app_ok8 h3
  rw [e1] at hu ⊢
  rw [e2] at hv ⊢
  by_cases h : stand g a b = 2
  · exact .inl h
  · right
    have hr := errT_right ha
    exact (stand_sub (fun x hx hn => wt_pos hr (put_part (ofS s) a.size a (Nat.le_refl _) (errT_bad ha) (errT_okT hu) x hx hn)) (fun x hx hn => wt_pos hr (put_part (ofS s) b.size b (Nat.le_refl _) (errT_bad hb) (errT_okT hv) x hx hn)) (errT_bad ha) (errT_bad hb) h).symm

set_option maxRecDepth 100000 in
set_option maxHeartbeats 8000000 in
theorem kboPuts_walk (g : Sg) (a b : T) (s : Sb) (ga : Option Addr) (gc : Nat) (pa : Option Addr) (ca : Nat) (pb : Option Addr) (cb : Nat) (sa : Option Addr) (sc : Nat) (w : World) (haw : (Lit.int .i64 a.head).wf = true) (hbw : (Lit.int .i64 b.head).wf = true)
    (hG : IsSg w.heap.size w g ga gc) (hA : IsArgs w.heap.size w a.args pa ca) (hB : IsArgs w.heap.size w b.args pb cb) (hS : IsBs w.heap.size w s sa sc) :
    Calls Try.prog 7 #[.slice ga g.length gc, tm a.head pa a.args.length ca, tm b.head pb b.args.length cb, .slice sa s.length sc] w fun e w' => e = .returned (.bool true) ∧ Below w.heap.size w w' := by
  have HAW := Lib.hid haw
  have HBW := Lib.hid hbw
  have CA := Lib.hid awake8_any
  have d0 := ((((((Later.below (Below.refl _ w)).and (later_sg hG)).and (later_bs hS)).and (later_args hB)).and (later_args hA)).push (Below.refl _ _) a.head pa a.args.length ca).push (Below.refl _ _) b.head pb b.args.length cb
  simp only [heap_alloc_size] at d0
  have D := Lib.hid d0
  clear haw hbw hG hA hB hS d0
  go_enter Try.func7, Try.ntmps7
  go_wp2_with fail
  have hsz : ((w.alloc (tmCells a.head pa a.args.length ca)).alloc (tmCells b.head pb b.args.length cb)).heap.size = w.heap.size + 1 + 1 := by simp
  generalize (w.alloc (tmCells a.head pa a.args.length ca)).alloc (tmCells b.head pb b.args.length cb) = wB at D hsz ⊢
  have d1 := D.out.pushC (Below.refl _ _) #[.int .i64 a.head, .slice pa a.args.length ca, .int .i64 b.head, .slice pb b.args.length cb] 25
  rw [hsz] at d1
  have D1 := Lib.hid d1
  clear d1 hsz D
  generalize wB.alloc (.cells #[.int .i64 a.head, .slice pa a.args.length ca, .int .i64 b.head, .slice pb b.args.length cb] 25) = w1 at D1 ⊢
  generalize hb0 : w.heap.size = b0 at D1 ⊢
  have HB0 := Lib.hid hb0
  clear hb0
  refine (few8_any g [a, b] w1.heap.size ga gc _ 2 w1 (Nat.le_refl _) D1.out.now.2.2.2.2.2.2.1 (row_of2 D1.out.now.1 HAW.out HBW.out D1.out.now.2.2.2.1 D1.out.now.2.2.2.2.1)).mono ?_
  rintro e w2 ⟨f1, rfl, hfew, hb⟩
  have D2 := Lib.hid (show Later _ _ from fun X hX => (D1.out.mv hb X hX).2)
  clear hb D1
  cases f1
  case false =>
    have HQ := Lib.hid D2.out.now.2.2.2.2.2.2
    clear D2 hfew
    go_wp2
    go_ret
    exact ⟨rfl, by rw [HB0.out]; exact HQ.out⟩
  have hsum := hfew rfl
  simp only [T.sizes] at hsum
  have hza : a.size ≤ 1000000000000 := by omega
  have hzb : b.size ≤ 1000000000000 := by omega
  clear hfew hsum
  go_wp2_with fail
  refine (fewS_any s w2.heap.size sa sc w2 (Nat.le_refl _) D2.out.now.2.2.2.2.1).mono ?_
  rintro e w2' ⟨f1, rfl, hfew, hb⟩
  have D2' := Lib.hid (D2.out.mv hb)
  clear hb D2
  cases f1
  case false =>
    have HQ := Lib.hid D2'.out.now.2.2.2.2.2.2
    clear D2' hfew
    go_wp2
    go_ret
    exact ⟨rfl, by rw [HB0.out]; exact HQ.out⟩
  have HUS := Lib.hid (show ∀ x ∈ s, x.2.size ≤ 1000000000000 from fun x hx => Nat.le_trans (hfew rfl x hx) (by omega))
  clear hfew
  obtain ⟨⟨y0, y1⟩, ⟨x0, x1⟩, _⟩ := D2'.out.now
  go_wp2_with fail
  clear y0 y1 x0 x1
  refine (kCompare_any g a b hza hzb w2'.heap.size ga gc pa ca pb cb w2' (Nat.le_refl _) D2'.out.now.2.2.2.2.2.1 HAW.out HBW.out D2'.out.now.2.2.1 D2'.out.now.2.2.2.1).mono ?_
  rw [cmpV_eq]
  rintro e w3 ⟨rfl, hb⟩
  have D3 := Lib.hid (D2'.out.mv hb)
  clear hb D2'
  obtain ⟨⟨y0, y1⟩, ⟨x0, x1⟩, _⟩ := D3.out.now
  go_wp2_with fail
  clear y0 y1 x0 x1
  refine (apply_any s HUS.out a hza w3.heap.size sa sc pa ca w3 (Nat.le_refl _) D3.out.now.2.2.2.2.1 HAW.out D3.out.now.2.2.1).mono ?_
  rintro e w4 ⟨a1, c1, rfl, huw, hyA, hb⟩
  have D4 := Lib.hid (D3.out.pushT hb _ a1 c1 hyA)
  have HUW := Lib.hid huw
  have hus := appT_small8 s a
  obtain ⟨⟨y0, y1⟩, ⟨x0, x1⟩, _⟩ := D3.out.mv hb |>.now
  have hlt4 : b0 + 1 < w4.heap.size := World.block_lt_of_cell? w4 ⟨b0 + 1, 0, none⟩ y0
  have hne4 : b0 ≠ w4.heap.size := by omega
  have hne5 : b0 + 1 ≠ w4.heap.size := by omega
  clear hb hyA huw D3
  generalize hx1 : appT s a = u at D4 HUW hus ⊢
  generalize hf : appE s a = f at ⊢
  have HX1 := Lib.hid hx1
  have HF := Lib.hid hf
  clear hx1 hf
  go_wp2_with fail
  clear y0 y1 x0 x1 hlt4 hne4 hne5
  generalize w4.alloc (tmCells u.head a1 u.args.length c1) = w5 at D4 ⊢
  generalize w4.heap.size = b4 at D4 ⊢
  refine (apply_any s HUS.out b hzb w5.heap.size sa sc pb cb w5 (Nat.le_refl _) D4.out.now.2.2.2.2.2.2.1 HBW.out D4.out.now.2.2.2.2.2.1).mono ?_
  rintro e w6 ⟨a2, c2, rfl, hvw, hyA, hb⟩
  have D5 := Lib.hid (D4.out.pushT hb _ a2 c2 hyA)
  have HVW := Lib.hid hvw
  have hvs := appT_small8 s b
  obtain ⟨⟨z0, z1⟩, _, ⟨y0, y1⟩, ⟨x0, x1⟩, _⟩ := D4.out.mv hb |>.now
  have hlt6 : b4 < w6.heap.size := World.block_lt_of_cell? w6 ⟨b4, 0, none⟩ z0
  have hne6 : b4 ≠ w6.heap.size := by omega
  clear hb hyA hvw D4
  generalize hx1 : appT s b = v at D5 HVW hvs ⊢
  generalize hf : appE s b = h at ⊢
  have HX2 := Lib.hid hx1
  have HH := Lib.hid hf
  clear hx1 hf
  go_wp2_with fail
  clear y0 y1 x0 x1 z0 z1 hlt6 hne6
  generalize w6.alloc (tmCells v.head a2 v.args.length c2) = w7 at D5 ⊢
  generalize w6.heap.size = b6 at D5 ⊢
  refine (kCompare_any g u v hus hvs w7.heap.size ga gc a1 c1 a2 c2 w7 (Nat.le_refl _) D5.out.now.2.2.2.2.2.2.2.2.2.1 HUW.out HVW.out D5.out.now.2.2.2.1 D5.out.now.2.1).mono ?_
  rw [cmpV_eq]
  rintro e w8 ⟨rfl, hb⟩
  have HB8 := Lib.hid (D5.out.mv hb)
  clear hb D5
  have HFACT := Lib.hid (show errF g [a, b] = 0 → f = 0 → h = 0 → errF g [u, v] = 0 → cmR g a b = 2 ∨ cmR g a b = cmR g u v from fun h1 h2 h3 h4 => by
    rw [← HX1.out, ← HX2.out] at h4 ⊢
    exact puts_fact h1 (HF.out.trans h2) (HH.out.trans h3) h4)
  generalize cmR g a b = x at *
  generalize cmR g u v = y at *
  generalize errF g [a, b] = e1 at *
  generalize errF g [u, v] = e2 at *
  clear HX1 HX2 HF HH
  by_cases hall : e1 = 0 ∧ f = 0 ∧ h = 0 ∧ e2 = 0
  · obtain ⟨rfl, rfl, rfl, rfl⟩ := hall
    have hxy := HFACT.out rfl rfl rfl rfl
    clear HFACT
    go_wp2_with fail
    refine (CA.out _).mono ?_
    rintro e w9 ⟨rfl, hb⟩
    have HQ := Lib.hid (HB8.out _ hb).2.2.2.2.2.2.2.2.2.2
    clear hb
    by_cases hx2 : x = 2
    · subst hx2
      go_wp2
      go_ret
      exact ⟨rfl, by rw [HB0.out]; exact HQ.out⟩
    · have hxe : x = y := by rcases hxy with h | h; exact absurd h hx2; exact h
      subst hxe
      have hx3 : (x == 2) = false := by simpa using hx2
      go_wp2
      go_ret
      exact ⟨by simp, by rw [HB0.out]; exact HQ.out⟩
  · have hbad : (e1 != 0) = true ∨ ((e1 != 0) = false ∧ (f != 0) = true) ∨ ((e1 != 0) = false ∧ (f != 0) = false ∧ (h != 0) = true) ∨ ((e1 != 0) = false ∧ (f != 0) = false ∧ (h != 0) = false ∧ (e2 != 0) = true) := by
      by_cases h1 : e1 = 0
      · by_cases h2 : f = 0
        · by_cases h3 : h = 0
          · have h4 : ¬ e2 = 0 := fun h4 => hall ⟨h1, h2, h3, h4⟩
            exact .inr (.inr (.inr ⟨by simpa using h1, by simpa using h2, by simpa using h3, by simpa using h4⟩))
          · exact .inr (.inr (.inl ⟨by simpa using h1, by simpa using h2, by simpa using h3⟩))
        · exact .inr (.inl ⟨by simpa using h1, by simpa using h2⟩)
      · exact .inl (by simpa using h1)
    clear hall HFACT
    rcases hbad with h1 | ⟨h1, h2⟩ | ⟨h1, h2, h3⟩ | ⟨h1, h2, h3, h4⟩
    all_goals
      go_wp2_with fail
      refine (CA.out _).mono ?_
      rintro e w9 ⟨rfl, hb⟩
      have HQ := Lib.hid (HB8.out _ hb).2.2.2.2.2.2.2.2.2.2
      clear hb
      go_wp2
      go_ret
      exact ⟨rfl, by rw [HB0.out]; exact HQ.out⟩

end Go.Proofs.Ytbfanbaijombaaa
