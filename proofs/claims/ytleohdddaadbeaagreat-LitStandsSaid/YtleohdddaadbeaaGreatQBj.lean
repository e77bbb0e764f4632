/- QBj: joined of Kb4, Kcm. -/
import Derived.Test.YtleohdddaadbeaaGreatQBh
import Derived.Test.YtleohdddaadbeaaGreatQBi
/- Plain facts that tie the order to the way in which the document's answer reckons it. -/
namespace Go.Proofs.YtleohdddaadbeaaGreat
set_option linter.unusedVariables false
set_option linter.unusedSimpArgs false
open Go.RowKit

/-- Each symbol is the first of its name just if no two have one name. -/
theorem difSg_iff {g : Sg} : difSg g = true ↔ ∀ (i k : Nat) (x y : Sy), k < i → g[i]? = some x → g[k]? = some y → y.name ≠ x.name := by
  constructor
  · intro h i k x y hk hi hy e
    have hl := (List.getElem?_eq_some_iff.1 hi).1
    have h1 := List.all_eq_true.1 h i (List.mem_range.2 hl)
    rw [hi] at h1
    simp only [decide_eq_true_eq] at h1
    obtain ⟨_, _, _, h4⟩ := idxSy_get h1
    exact h4 k y hk hy e
  · intro h
    refine List.all_eq_true.2 fun i hi => ?_
    have hl := List.mem_range.1 hi
    have hx := List.getElem?_eq_getElem hl
    rw [hx]
    simp only [decide_eq_true_eq]
    exact idxSy_hit (fun j y hj hy => h i j _ y hj hx hy) hx rfl
/-- No two of the first k have one name. -/
def difK (g : Sg) (k : Nat) : Prop := ∀ (i j : Nat) (x y : Sy), i < k → j < i → g[i]? = some x → g[j]? = some y → y.name ≠ x.name
theorem difK_all {g : Sg} : difK g g.length ↔ difSg g = true := by
  rw [difSg_iff]
  constructor
  · intro h i k x y hk hi hy
    exact h i k x y (List.getElem?_eq_some_iff.1 hi).1 hk hi hy
  · intro h i j x y _ hj hi hy
    exact h i j x y hj hi hy
theorem difK_step {g : Sg} {k : Nat} {x : Sy} (hx : g[k]? = some x) : difK g (k + 1) ↔ difK g k ∧ ∀ (j : Nat) (y : Sy), j < k → g[j]? = some y → y.name ≠ x.name := by
  constructor
  · intro h
    exact ⟨fun i j a b hi hj ha hb => h i j a b (by omega) hj ha hb, fun j y hj hy => h k j x y (by omega) hj hx hy⟩
  · rintro ⟨h1, h2⟩ i j a b hi hj ha hb
    by_cases e : i = k
    · subst e
      rw [hx] at ha
      obtain rfl := Option.some.inj ha
      exact h2 j b hj hb
    · exact h1 i j a b (by omega) hj ha hb

/-! ### Heads, by loops over arguments -/
theorem hdsL_flat (ts : List T) : T.hdsL ts = (ts.map T.hds).flatten := by
  induction ts with
  | nil => rfl
  | cons t ts ih => simp [T.hdsL, ih]
theorem hds_unique {F : T → List Int} (hF : ∀ t, F t = t.head :: (t.args.map F).flatten) : ∀ (N : Nat) (t : T), t.size ≤ N → F t = t.hds := by
  intro N
  induction N with
  | zero => intro t ht; have := T.size_pos t; omega
  | succ N ih =>
    intro t ht
    rw [hF, T.hds_eq, hdsL_flat]
    congr 2
    exact List.map_congr_left fun s hs => ih s (by have := size_mem hs; have := T.size_eq t; omega)
theorem hdsL_append (a b : List T) : T.hdsL (a ++ b) = T.hdsL a ++ T.hdsL b := by simp [hdsL_flat]
theorem hdsL_take {ts : List T} {k : Nat} {s : T} (h : ts[k]? = some s) : T.hdsL (ts.take (k + 1)) = T.hdsL (ts.take k) ++ s.hds := by
  obtain ⟨hi, e⟩ := List.getElem?_eq_some_iff.1 h
  rw [List.take_succ_eq_append_getElem hi, hdsL_append, e]
  simp [T.hdsL]
theorem wtL_append (g : Sg) (a b : List T) : wtL g (a ++ b) = wtL g a + wtL g b := by
  induction a with
  | nil => simp [wtL]
  | cons t a ih => simp [wtL, ih]; omega
theorem wtL_take {g : Sg} {ts : List T} {k : Nat} {s : T} (h : ts[k]? = some s) : wtL g (ts.take (k + 1)) = wtL g (ts.take k) + wtT g s := by
  obtain ⟨hi, e⟩ := List.getElem?_eq_some_iff.1 h
  rw [List.take_succ_eq_append_getElem hi, wtL_append, e]
  simp [wtL]
theorem fitsL_take {g : Sg} {ts : List T} {k : Nat} {s : T} (h : ts[k]? = some s) : fitsL g (ts.take (k + 1)) = (fitsL g (ts.take k) && fitsT g s) := by
  obtain ⟨hi, e⟩ := List.getElem?_eq_some_iff.1 h
  rw [List.take_succ_eq_append_getElem hi, fitsL_all, fitsL_all, List.all_append, e]
  simp
theorem fitsL_bad {g : Sg} {ts : List T} {k : Nat} {s : T} (h : ts[k]? = some s) (hf : fitsT g s = false) : fitsL g ts = false := by
  rw [fitsL_all, List.all_eq_false]
  exact ⟨s, List.mem_of_getElem? h, by simp [hf]⟩
theorem predL_take {g : Sg} {ts : List T} {k : Nat} {s : T} (h : ts[k]? = some s) : predL g (ts.take (k + 1)) = (predL g (ts.take k) || predT g s) := by
  obtain ⟨hi, e⟩ := List.getElem?_eq_some_iff.1 h
  rw [List.take_succ_eq_append_getElem hi, predL_any, predL_any, List.any_append, e]
  simp
theorem predL_hit {g : Sg} {ts : List T} {k : Nat} {s : T} (h : ts[k]? = some s) (hp : predT g s = true) : predL g ts = true := by
  rw [predL_any, List.any_eq_true]
  exact ⟨s, List.mem_of_getElem? h, hp⟩

/-! ### Variables -/
def IsVars (vs : List Int) (t : T) : Prop := ∀ v, v ∈ vs ↔ ∃ x ∈ t.hds, x < 0 ∧ v = -1 - x
theorem oft_vars {a b : T} {vs : List Int} (h : IsVars vs b) : Oft a b ↔ ∀ v ∈ vs, b.hds.count (-1 - v) ≤ a.hds.count (-1 - v) := by
  constructor
  · intro o v hv
    obtain ⟨x, _, hx, rfl⟩ := (h v).1 hv
    exact o _ (by omega)
  · intro o z hz
    by_cases hm : z ∈ b.hds
    · have := o (-1 - z) ((h _).2 ⟨z, hm, hz, rfl⟩)
      rwa [show -1 - (-1 - z) = z from by omega] at this
    · rw [List.count_eq_zero.2 hm]; exact Nat.zero_le _
theorem grd_vars {t : T} {vs : List Int} (h : IsVars vs t) : vs = [] ↔ Grd t := by
  constructor
  · rintro rfl x hx
    by_cases q : x < 0
    · have := (h (-1 - x)).2 ⟨x, hx, q, rfl⟩
      simp at this
    · omega
  · intro hg
    refine List.eq_nil_iff_forall_not_mem.2 fun v hv => ?_
    obtain ⟨x, hx, q, _⟩ := (h v).1 hv
    have := hg x hx
    omega

/-! ### The first arguments that are not the same -/
theorem gtL_take {g : Sg} : ∀ {ts us : List T} {k : Nat}, ts.take k = us.take k → ts.length = us.length → gtL g ts us = gtL g (ts.drop k) (us.drop k)
  | ts, us, 0, _, _ => by simp
  | [], [], k + 1, _, _ => by simp
  | [], _ :: _, k + 1, _, hl => by simp at hl
  | _ :: _, [], k + 1, _, hl => by simp at hl
  | t :: ts, u :: us, k + 1, h, hl => by
    simp only [List.take_succ_cons, List.cons.injEq] at h
    obtain ⟨rfl, h⟩ := h
    rw [gtL, T.same_self, if_pos rfl]
    simp only [List.drop_succ_cons]
    exact gtL_take h (by simpa using hl)
theorem gtL_at {g : Sg} {ts us : List T} {k : Nat} {t u : T} (h : ts.take k = us.take k) (hl : ts.length = us.length) (ht : ts[k]? = some t) (hu : us[k]? = some u) (hne : t ≠ u) : gtL g ts us = gtK g t u := by
  rw [gtL_take h hl]
  obtain ⟨h1, e1⟩ := List.getElem?_eq_some_iff.1 ht
  obtain ⟨h2, e2⟩ := List.getElem?_eq_some_iff.1 hu
  rw [List.drop_eq_getElem_cons h1, List.drop_eq_getElem_cons h2, e1, e2, gtL, T.same_ne hne, if_neg (by simp)]
theorem gtL_end {g : Sg} {ts us : List T} (h : ts.take ts.length = us.take ts.length) (hl : ts.length = us.length) : gtL g ts us = false := by
  have : ts = us := by rw [List.take_length, hl, List.take_length] at h; exact h
  rw [this, gtL_self]

end Go.Proofs.YtleohdddaadbeaaGreat

/- Kbo's scale: contract of its compare. -/
namespace Go.Proofs.YtleohdddaadbeaaGreat
set_option linter.unusedVariables false
set_option linter.unusedSimpArgs false
open Go.RowKit

def CmPost (Bs M : Nat) (g : Sg) (ga : Option Addr) (gc : Nat) (a b : T) (w : World) (e : Ending) (w' : World) : Prop :=
  e = .returned (.int .i64 (stand g a b)) ∧ ∃ S, Scl w' Bs M g ga gc S ∧ Sfr Bs M w w' ∧ (a = b → S = ([], [])) ∧ CntD S a.hds b.hds ∧ lenS S ≤ a.size + b.size
def CmI (Bs M : Nat) (g : Sg) (ga : Option Addr) (gc : Nat) (a b : T) (W2 : World) (ov i : Value) (wr : World) : Prop :=
  ∃ (k : Nat) (o : Int) (S : Sds), k ≤ a.args.length ∧ i = .int .i64 (k : Nat) ∧ ov = .int .i64 o ∧ Scl wr Bs M g ga gc S ∧ Sfr Bs M W2 wr ∧ CntD S (T.hdsL (a.args.take k)) (T.hdsL (b.args.take k)) ∧ lenS S ≤ T.sizes (a.args.take k) + T.sizes (b.args.take k) ∧
    ((o = 0 ∧ S = ([], []) ∧ a.args.take k = b.args.take k) ∨ (o ≠ 0 ∧ ∃ (j : Nat) (t u : T), a.args.take j = b.args.take j ∧ a.args[j]? = some t ∧ b.args[j]? = some u ∧ t ≠ u ∧ o = stand g t u))

/-- What decide makes of the end of the loop. -/
theorem cm_end {g : Sg} {a b : T} {o : Int} {S : Sds} (hh : a.head = b.head) (hl : a.args.length = b.args.length) (hpos : a.args ≠ [] → 0 ≤ a.head) (hc : CntD S (T.hdsL a.args) (T.hdsL b.args))
    (h : (o = 0 ∧ S = ([], []) ∧ a.args = b.args) ∨ (o ≠ 0 ∧ ∃ (j : Nat) (t u : T), a.args.take j = b.args.take j ∧ a.args[j]? = some t ∧ b.args[j]? = some u ∧ t ≠ u ∧ o = stand g t u)) :
    decV g S o = stand g a b ∧ (a = b → S = ([], [])) ∧ CntD S a.hds b.hds := by
  have hc2 : CntD S a.hds b.hds := fun v => by
    rw [hc v, T.hds_eq a, T.hds_eq b, hh, List.count_cons, List.count_cons]
    omega
  rcases h with ⟨rfl, rfl, ha⟩ | ⟨ho, j, t, u, h1, h2, h3, hne, rfl⟩
  · have e : a = b := by rw [← T.eta a, ← T.eta b, hh, ha]
    subst e
    exact ⟨by rw [decV_empty, stand_zero.2 rfl], fun _ => rfl, hc2⟩
  · have hab : a ≠ b := by
      rintro rfl
      rw [h2] at h3
      exact hne (Option.some.inj h3)
    have hn : a.args ≠ [] := by intro e; rw [e] at h2; simp at h2
    have h0 := hpos hn
    have e1 := gtL_at (g := g) h1 hl h2 h3 hne
    have e2 := gtL_at (g := g) h1.symm hl.symm h3 h2 hne.symm
    refine ⟨decV_stand hc2 hab ?_ ?_ ?_, fun e => absurd e hab, hc2⟩
    · rcases stand_cases g t u with ⟨_, e⟩ | ⟨e, _⟩ | ⟨e, _⟩ | ⟨e, _⟩
      · exact absurd e hne
      · exact .inl e
      · exact .inr (.inl e)
      · exact .inr (.inr e)
    · rw [stand_more, ← e1]
      exact ⟨fun q => ⟨h0, by omega, .inr ⟨hh, q⟩⟩, fun ⟨_, _, q⟩ => by rcases q with q | q; omega; exact q.2⟩
    · rw [stand_less, ← e2]
      exact ⟨fun q => ⟨by omega, h0, .inr ⟨hh.symm, q⟩⟩, fun ⟨_, _, q⟩ => by rcases q with q | q; omega; exact q.2⟩
theorem take_snoc_eq {a b : List T} {k : Nat} {s : T} (h : a.take k = b.take k) (h1 : a[k]? = some s) (h2 : b[k]? = some s) : a.take (k + 1) = b.take (k + 1) := by
  obtain ⟨i1, e1⟩ := List.getElem?_eq_some_iff.1 h1
  obtain ⟨i2, e2⟩ := List.getElem?_eq_some_iff.1 h2
  rw [List.take_succ_eq_append_getElem i1, List.take_succ_eq_append_getElem i2, h, e1, e2]
theorem CntD.snoc {S S' : Sds} {A B L R : List Int} (h : CntD S A B) (h' : ∀ v, cS S' v = cS S v + (L.count v : Nat) - (R.count v : Nat)) : CntD S' (A ++ L) (B ++ R) := fun v => by
  rw [h' v, h v, List.count_append, List.count_append]; omega

set_option maxRecDepth 100000 in
set_option maxHeartbeats 4000000 in
theorem scCmp_any (g : Sg) (hr : rightG g = true) : ∀ (N : Nat) (a b : T), a.size ≤ N → fitsT g a = true → bad (T.subs 1 a) = false → fitsT g b = true → bad (T.subs 1 b) = false → a.size + b.size ≤ 400000 →
    ∀ (n₀ : Nat) (ga : Option Addr) (gc : Nat) (pa : Option Addr) (ca : Nat) (pb : Option Addr) (cb Bs M : Nat) (w : World), n₀ ≤ Bs → n₀ ≤ M → n₀ ≤ w.heap.size → IsSg n₀ w g ga gc → (Lit.int .i64 a.head).wf = true → (Lit.int .i64 b.head).wf = true → IsArgs n₀ w a.args pa ca → IsArgs n₀ w b.args pb cb → Scl w Bs M g ga gc ([], []) →
    Calls Tryz.prog 59 #[.pointer (some ⟨Bs, 0, none⟩), tm a.head pa a.args.length ca, tm b.head pb b.args.length cb] w (CmPost Bs M g ga gc a b w) := by
  intro N
  induction N with
  | zero => intro a b ht; have := T.size_pos a; omega
  | succ N ih =>
    intro a b ht hfa hba hfb hbb hlen n₀ ga gc pa ca pb cb Bs M w hnB hnM hn hG hwa hwb hA hB hS
    have IH := Lib.hid ih
    clear ih
    have hBl := hS.lt
    have hMl := hS.map.lt
    obtain ⟨W1, hW1⟩ : ∃ W1, w.alloc (tmCells a.head pa a.args.length ca) = W1 := ⟨_, rfl⟩
    have hs1 : W1.heap.size = w.heap.size + 1 := by rw [← hW1]; simp
    have hF1 : Below w.heap.size w W1 := by rw [← hW1]; exact (Below.refl _ w).alloc (Nat.le_refl _) _
    have L1 : Later (fun X => Vc w.heap.size a.head pa a.args.length ca X) W1 := by rw [← hW1]; exact later_var w _ _ _ _
    obtain ⟨W2, hW2⟩ : ∃ W2, W1.alloc (tmCells b.head pb b.args.length cb) = W2 := ⟨_, rfl⟩
    have hs2 : W2.heap.size = w.heap.size + 2 := by rw [← hW2]; simp; omega
    have hF2 : Below w.heap.size w W2 := by rw [← hW2]; exact hF1.alloc (by omega) _
    have L2 : Later (fun X => Vc W1.heap.size b.head pb b.args.length cb X) W2 := by rw [← hW2]; exact later_var W1 _ _ _ _
    obtain ⟨hv0, hv1⟩ := (L1.mv (by rw [← hW2]; exact (Below.refl _ W1).alloc (Nat.le_refl _) _) : Later (fun X => Vc w.heap.size a.head pa a.args.length ca X) W2).now
    obtain ⟨hu0, hu1⟩ := L2.now
    rw [hs1] at hu0 hu1
    have hS2 := hS.later hF2
    have hbB : w.heap.size ≠ Bs := by omega
    have hbM : w.heap.size ≠ M := by omega
    have hbB1 : w.heap.size + 1 ≠ Bs := by omega
    have hbM1 : w.heap.size + 1 ≠ M := by omega
    have hG2 := hG.below (hF2.mono hn)
    have hA2 := hA.below (hF2.mono hn)
    have hB2 := hB.below (hF2.mono hn)
    by_cases q1 : a.head = b.head
    · have hl : b.args.length = a.args.length := by
        by_cases h0 : a.head < 0
        · rw [good_var hba h0, good_var hbb (by omega)]
        · exact (fits_arity hfa hfb (by omega) q1).symm
      have hpos : a.args ≠ [] → 0 ≤ a.head := fun hne => by
        by_cases h0 : a.head < 0
        · exact absurd (good_var hba h0) hne
        · omega
      rw [hl] at hu1 hW2 ⊢
      rw [← q1] at hu0 hW2 ⊢
      have HEND := Lib.hid (fun (o : Int) (S : Sds) => cm_end (g := g) (a := a) (b := b) (o := o) (S := S) q1 hl.symm hpos)
      have HSA := Lib.hid (fun (s : T) (hs : s ∈ a.args) => fits_args hfa hba s hs)
      have HSB := Lib.hid (fun (s : T) (hs : s ∈ b.args) => fits_args hfb hbb s hs)
      have HSZ := Lib.hid (show a.size = 1 + T.sizes a.args ∧ b.size = 1 + T.sizes b.args ∧ a.size ≤ N + 1 ∧ a.size + b.size ≤ 400000 from ⟨T.size_eq a, T.size_eq b, ht, hlen⟩)
      have HA := Lib.hid hA2
      have HBA := Lib.hid hB2
      have HG := Lib.hid hG2
      have HS2 := Lib.hid hS2
      have HF2 := Lib.hid hF2
      have HN := Lib.hid (show n₀ ≤ W2.heap.size ∧ n₀ ≤ Bs ∧ n₀ ≤ M from ⟨by omega, hnB, hnM⟩)
      have HL := Lib.hid hl
      have hlc : a.args.length ≤ ca ∧ ca ≤ maxLen := ⟨hA.1, hA.2.1⟩
      have hlb : a.args.length ≤ cb ∧ cb ≤ maxLen := ⟨by rw [← hl]; exact hB.1, hB.2.1⟩
      unfold maxLen at hlc hlb
      obtain ⟨hl1, hl2⟩ := hlc
      obtain ⟨hl3, hl4⟩ := hlb
      have hz1 : w.heap.size < W2.heap.size := by omega
      have hz2 : w.heap.size + 1 < W2.heap.size := by omega
      clear hG hA hB hS hS2 hF1 L1 L2 hF2 hG2 hA2 hB2 q1 hl hpos hfa hba hfb hbb hwa hwb ht hlen
      go_enter Tryz.func59, Tryz.ntmps59
      go_wp2
      clear hW1 hW2
      go_loopw [7, 26] (fun ov i wr => CmI Bs M g ga gc a b W2 ov i wr) (fun _ i _ => a.args.length - (intOf i).toNat)
      case atStart => exact ⟨0, 0, ([], []), Nat.zero_le _, rfl, rfl, HS2.out, Sfr.refl _ _ _, by simpa [T.hdsL] using CntD.nil [], by simp [lenS], .inl ⟨rfl, rfl, by simp⟩⟩
      case round =>
        obtain ⟨k, o, S, hk, rfl, rfl, hSk, hFk, hck, hlk, hok⟩ := hrel
        have HSk := Lib.hid hSk
        have HFk := Lib.hid hFk
        have HCk := Lib.hid hck
        have HLk := Lib.hid hlk
        have HOk := Lib.hid hok
        have hav : wr.cell? ⟨w.heap.size, 1, none⟩ = some (.slice pa a.args.length ca) := (hFk.cell hz1 hbB hbM).trans hv1
        have hbv : wr.cell? ⟨w.heap.size + 1, 1, none⟩ = some (.slice pb a.args.length cb) := (hFk.cell hz2 hbB1 hbM1).trans hu1
        have hBw : Below n₀ W2 wr := hFk.below HN.out.2.1 HN.out.2.2 HN.out.1
        have hszr := hFk.size
        by_cases hlt : k < a.args.length
        · obtain ⟨b1, o1, s, a1, c1, rfl, hbn1, hs, hswf, hcs1, hcs2, hA'⟩ := (HA.out.below hBw).elem (i := k) hlt
          obtain ⟨b2, o2, u, a2, c2, rfl, hbn2, hu, huwf, hcu1, hcu2, hB'⟩ := (HBA.out.below hBw).elem (i := k) (by rw [HL.out]; exact hlt)
          have hk0 : (0 : Int) ≤ (k : Int) := Int.natCast_nonneg _
          have hk1 : (k : Int) < (a.args.length : Int) := by omega
          have hnw := HN.out.1
          have hb1w : b1 < wr.heap.size := by omega
          have hb2w : b2 < wr.heap.size := by omega
          obtain ⟨hfs, hbs⟩ := HSA.out s (List.mem_of_getElem? hs)
          obtain ⟨hfu, hbu⟩ := HSB.out u (List.mem_of_getElem? hu)
          obtain ⟨z1, z2, z3, z4⟩ := HSZ.out
          have y1 := T.size_lt_of_mem hs
          have y2 := T.size_lt_of_mem hu
          have x1 := T.sizes_take hs
          have x2 := T.sizes_take hu
          have x3 := T.sizes_append (a.args.take (k + 1)) (a.args.drop (k + 1))
          have x4 := T.sizes_append (b.args.take (k + 1)) (b.args.drop (k + 1))
          rw [List.take_append_drop] at x3 x4
          have HD1 := Lib.hid (hdsL_take' hs)
          have HD2 := Lib.hid (hdsL_take' hu)
          have HX := Lib.hid (And.intro x1 x2)
          have HSU := Lib.hid (And.intro hs hu)
          by_cases ho : o = 0
          · obtain ⟨rfl, htk⟩ : S = ([], []) ∧ a.args.take k = b.args.take k := by
              rcases hok with h | h
              · exact h.2
              · exact absurd ho h.1
            have HCALL := Lib.hid (IH.out s u (by omega) hfs hbs hfu hbu (by omega) n₀ ga gc a1 c1 a2 c2 Bs M wr.drew HN.out.2.1 HN.out.2.2 (by show n₀ ≤ wr.heap.size; omega) (HG.out.below hBw.drew) hswf huwf (hA'.below (Below.refl _ _).drew) (hB'.below (Below.refl _ _).drew) (hSk.kept rfl rfl))
            have HTK := Lib.hid htk
            clear hA' hB' hs hu hSk hFk hck hlk hok hBw hfs hbs hfu hbu z1 z2 z3 z4 y1 y2 x1 x2 x3 x4 htk hv0 hv1 hu0 hu1
            subst ho
            go_wp2
            go_still_tail 11, (by kernel_rfl)
            change wpList _ _ _ _ _ wr.drew
            go_wp2_with fail
            refine HCALL.out.mono ?_
            rintro e w5 ⟨rfl, S5, hS5, hF5, he5, hc5, hl5⟩
            have HS5 := Lib.hid hS5
            have HF5 := Lib.hid ((HFk.out.drew).trans hF5)
            have HR := Lib.hid (And.intro he5 (And.intro hc5 hl5))
            clear hS5 hF5 he5 hc5 hl5
            go_wp2
            go_roundw
            case rel =>
              obtain ⟨he5, hc5, hl5⟩ := HR.out
              obtain ⟨hs, hu⟩ := HSU.out
              refine ⟨k + 1, _, S5, by omega, by go_num, rfl, HS5.out, HF5.out, ?_, ?_, ?_⟩
              · rw [HD1.out, HD2.out, HTK.out]
                exact fun v => by rw [hc5 v, List.count_append, List.count_append]; omega
              · have := HX.out; omega
              · by_cases hsu : s = u
                · subst hsu
                  exact .inl ⟨stand_zero.2 rfl, he5 rfl, take_snoc_eq HTK.out hs hu⟩
                · exact .inr ⟨fun e => hsu (stand_zero.1 e), k, s, u, HTK.out, hs, hu, hsu, rfl⟩
            case measure => simp [intOf]; omega
          · have hold := hok.resolve_left (fun h => ho h.1)
            have HOLD := Lib.hid hold
            have HCALL := Lib.hid (scAdd_any g hr s u hfs hbs hfu hbu S (by omega) n₀ ga gc a1 c1 a2 c2 Bs M wr.drew HN.out.2.1 HN.out.2.2 (by show n₀ ≤ wr.heap.size; omega) (HG.out.below hBw.drew) hswf huwf (hA'.below (Below.refl _ _).drew) (hB'.below (Below.refl _ _).drew) (hSk.kept rfl rfl))
            have ho2 : (o == 0) = false := by simpa using ho
            clear hA' hB' hs hu hSk hFk hck hlk hok hBw hfs hbs hfu hbu z1 z2 z3 z4 y1 y2 x1 x2 x3 x4 hold hv0 hv1 hu0 hu1 ho
            go_wp2
            go_still_tail 11, (by kernel_rfl)
            change wpList _ _ _ _ _ wr.drew
            go_wp2_with fail
            refine HCALL.out.mono ?_
            rintro e w5 ⟨rfl, hS5, hF5⟩
            have HS5 := Lib.hid hS5
            have HF5 := Lib.hid ((HFk.out.drew).trans hF5)
            clear hS5 hF5
            go_wp2
            go_roundw
            case rel =>
              refine ⟨k + 1, o, ab S s u, by omega, by go_num, rfl, HS5.out, HF5.out, ?_, ?_, .inr HOLD.out⟩
              · rw [HD1.out, HD2.out]
                exact HCk.out.put
              · have h1 := HX.out
                have h2 := HLk.out
                unfold ab
                rw [lenS_pl, lenS_pl, T.hds_length, T.hds_length]
                omega
            case measure => simp [intOf]; omega
        · obtain rfl : k = a.args.length := by omega
          have htb : b.args.take a.args.length = b.args := by rw [← HL.out, List.take_length]
          rw [List.take_length, htb] at hck hlk hok
          obtain ⟨e1, e2, e3⟩ := HEND.out o S hck hok
          have HE := Lib.hid (And.intro e1 (And.intro e2 e3))
          have hl9 : lenS S ≤ a.size + b.size := by have := HSZ.out; omega
          have HL9 := Lib.hid hl9
          have HDC := Lib.hid (decide_any g hr S o (by have := HSZ.out; omega) ga gc Bs M wr hSk)
          clear hSk hFk hck hlk hok hBw e1 e2 e3 hl9 htb hv0 hv1 hu0 hu1
          go_wp2_with fail
          refine HDC.out.mono ?_
          rintro e w5 ⟨rfl, hb5⟩
          have HS5 := Lib.hid (HSk.out.later hb5)
          have HF5 := Lib.hid (((Sfr.of_below HF2.out).trans HFk.out).trans (Sfr.of_below hb5))
          clear hb5
          go_wp2
          go_ret
          exact ⟨by rw [HE.out.1]; rfl, S, HS5.out, HF5.out, HE.out.2.1, HE.out.2.2, HL9.out⟩
    · have P1 := Lib.hid (scAdd_any g hr a b hfa hba hfb hbb ([], []) (by simp [lenS]; omega) n₀ ga gc pa ca pb cb Bs M W2 hnB hnM (by omega) hG2 hwa hwb hA2 hB2 hS2)
      have hcnt : CntD (ab ([], []) a b) a.hds b.hds := by
        have := (CntD.nil []).put (L := a.hds) (R := b.hds)
        simpa [ab] using this
      have hab : a ≠ b := fun e => q1 (by rw [e])
      have HV := Lib.hid (decV_stand hcnt hab (byH_cases a b q1) (byH_one (g := g) q1) (byH_two (g := g) q1))
      have hls : lenS (ab ([], []) a b) = a.size + b.size := by unfold ab; rw [lenS_pl, lenS_pl, T.hds_length, T.hds_length]; simp [lenS]
      have HCN := Lib.hid hcnt
      have HAB := Lib.hid hab
      have HLS := Lib.hid hls
      have HF2 := Lib.hid hF2
      have HBY := Lib.hid (fun W => byHead_any a b pa a.args.length ca pb b.args.length cb W)
      have HDC := Lib.hid (fun (W : World) (hW : Scl W Bs M g ga gc (ab ([], []) a b)) => decide_any g hr (ab ([], []) a b) (byH a b) (by omega) ga gc Bs M W hW)
      have q2 : (a.head != b.head) = true := by simpa using q1
      clear hG hA hB hS hS2 hF1 L1 L2 hF2 hG2 hA2 hB2 hcnt hab hls q1
      go_enter Tryz.func59, Tryz.ntmps59
      go_wp2_with fail
      refine P1.out.mono ?_
      rintro e w3 ⟨rfl, hS3, hF3⟩
      have hv0' : w3.cell? ⟨w.heap.size, 0, none⟩ = some (.int .i64 a.head) := (hF3.cell (by omega) hbB hbM).trans hv0
      have hv1' : w3.cell? ⟨w.heap.size, 1, none⟩ = some (.slice pa a.args.length ca) := (hF3.cell (by omega) hbB hbM).trans hv1
      have hu0' : w3.cell? ⟨w.heap.size + 1, 0, none⟩ = some (.int .i64 b.head) := (hF3.cell (by omega) hbB1 hbM1).trans hu0
      have hu1' : w3.cell? ⟨w.heap.size + 1, 1, none⟩ = some (.slice pb b.args.length cb) := (hF3.cell (by omega) hbB1 hbM1).trans hu1
      have HS3 := Lib.hid hS3
      have HF3 := Lib.hid ((Sfr.of_below HF2.out).trans hF3)
      clear hS3 hF3
      go_wp2_with fail
      refine (HBY.out _).mono ?_
      rintro e w4 ⟨rfl, hb4⟩
      have HS4 := Lib.hid (HS3.out.later hb4)
      have HF4 := Lib.hid (HF3.out.trans (Sfr.of_below hb4))
      clear hb4
      go_wp2_with fail
      refine (HDC.out _ HS4.out).mono ?_
      rintro e w5 ⟨rfl, hb5⟩
      have HS5 := Lib.hid (HS4.out.later hb5)
      have HF5 := Lib.hid (HF4.out.trans (Sfr.of_below hb5))
      clear hb5
      go_wp2
      go_ret
      exact ⟨by rw [HV.out]; rfl, _, HS5.out, HF5.out, fun e => absurd e HAB.out, HCN.out, by rw [HLS.out]; exact Nat.le_refl _⟩

end Go.Proofs.YtleohdddaadbeaaGreat
