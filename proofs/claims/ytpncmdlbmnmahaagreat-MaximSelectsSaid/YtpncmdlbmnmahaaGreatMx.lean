/- Which literals of a clause play a part: plain words. -/
import Derived.Test.YtpncmdlbmnmahaaGreatQBm
import Derived.Test.YtpncmdlbmnmahaaGreatQBo
import Derived.Test.YtpncmdlbmnmahaaGreatQBw
import Derived.Test.YtpncmdlbmnmahaaGreatQBp
namespace Go.Proofs.YtpncmdlbmnmahaaGreat
set_option linter.unusedVariables false
set_option linter.unusedSimpArgs false
open Go.RowKit
def z3 : Lt3 := ⟨false, .node 0 [], .node 0 []⟩
/-! ### Maximal literals -/
def hitL (g : Sg) (st : Bool) (x z : Lt3) : Bool := decide (standL g x z = 1) || (st && decide (standL g x z = 0))
def okX (g : Sg) (C : List Lt3) (i : Nat) (st : Bool) (k : Nat) : Bool := decide (k = i) || !(hitL g st (C.getD k z3) (C.getD i z3))
def topC (g : Sg) (C : List Lt3) (i : Nat) (st : Bool) : Bool := (List.range C.length).all (okX g C i st)
theorem topC_true {g : Sg} {C : List Lt3} {i : Nat} {st : Bool} (h : ∀ k < C.length, okX g C i st k = true) : topC g C i st = true := by
  unfold topC
  rw [List.all_eq_true]
  exact fun k hk => h k (List.mem_range.1 hk)
theorem topC_false {g : Sg} {C : List Lt3} {i k : Nat} {st : Bool} (hk : k < C.length) (h : okX g C i st k = false) : topC g C i st = false := by
  unfold topC
  rw [List.all_eq_false]
  exact ⟨k, List.mem_range.2 hk, by rw [h]; decide⟩
theorem topC_all {g : Sg} {C : List Lt3} {i : Nat} {st : Bool} (h : topC g C i st = true) : ∀ k < C.length, okX g C i st k = true := by
  unfold topC at h
  rw [List.all_eq_true] at h
  exact fun k hk => h k (List.mem_range.2 hk)
theorem getD_of {C : List Lt3} {k : Nat} {x : Lt3} (h : C[k]? = some x) : C.getD k z3 = x := by
  rw [List.getD_eq_getElem?_getD, h]; rfl
theorem okX_self {g : Sg} {C : List Lt3} {i : Nat} {st : Bool} : okX g C i st i = true := by simp [okX]
theorem okX_one {g : Sg} {C : List Lt3} {i k : Nat} {st : Bool} {x z : Lt3} (hk : k ≠ i) (hx : C[k]? = some x) (hz : C[i]? = some z) (h : standL g x z = 1) : okX g C i st k = false := by
  unfold okX hitL
  rw [getD_of hx, getD_of hz, h]; simp [hk]
theorem okX_two {g : Sg} {C : List Lt3} {i k : Nat} {x z : Lt3} (hk : k ≠ i) (hx : C[k]? = some x) (hz : C[i]? = some z) (h : standL g x z = 0) : okX g C i true k = false := by
  unfold okX hitL
  rw [getD_of hx, getD_of hz, h]; simp [hk]
theorem okX_three {g : Sg} {C : List Lt3} {i k : Nat} {st : Bool} {x z : Lt3} (hx : C[k]? = some x) (hz : C[i]? = some z) (h : standL g x z ≠ 1) (h2 : st = false ∨ standL g x z ≠ 0) : okX g C i st k = true := by
  unfold okX hitL
  rw [getD_of hx, getD_of hz]
  rcases h2 with h2 | h2 <;> simp [h, h2]
def idxB (C : List Lt3) (i : Int) : Bool := decide (0 ≤ i) && decide (i < (C.length : Int))
def mxE (g : Sg) (C : List Lt3) (i : Int) : Int := if errC g C = 0 then (if idxB C i then 0 else 1) else errC g C
def mxR (g : Sg) (C : List Lt3) (i : Int) (st : Bool) : Bool := if errC g C = 0 then (if idxB C i then topC g C i.toNat st else false) else false
theorem mx_bad {g : Sg} {C : List Lt3} {i : Int} {st : Bool} (h : errC g C ≠ 0) : mxE g C i = errC g C ∧ mxR g C i st = false := ⟨by unfold mxE; rw [if_neg h], by unfold mxR; rw [if_neg h]⟩
theorem mx_out {g : Sg} {C : List Lt3} {i : Int} {st : Bool} (h : errC g C = 0) (hi : idxB C i = false) : mxE g C i = 1 ∧ mxR g C i st = false := ⟨by unfold mxE; rw [if_pos h, hi]; rfl, by unfold mxR; rw [if_pos h, hi]; rfl⟩
theorem mx_ok {g : Sg} {C : List Lt3} {i : Int} {st : Bool} (h : errC g C = 0) (hi : idxB C i = true) : mxE g C i = 0 ∧ mxR g C i st = topC g C i.toNat st := ⟨by unfold mxE; rw [if_pos h, hi]; rfl, by unfold mxR; rw [if_pos h, hi]; rfl⟩
theorem lc_stand {g : Sg} {x y : LV} (h : errL g x.l x.r = 0) (h2 : errL g y.l y.r = 0) : lcR g x y = standL g x.t3 y.t3 ∧ lcE g x y = 0 := lc_all h h2
/-! ### What is selected -/
def wtB (g : Sg) (x : Lt3) : Int := wtT g x.l + wtT g x.r
def bestF (g : Sg) (hv : Bool) (C : List Lt3) : Nat → Int
  | 0 => -1
  | k + 1 => if (C.getD k z3).neg then (if bestF g hv C k < 0 then (k : Int) else if hv && decide (wtB g (C.getD (bestF g hv C k).toNat z3) < wtB g (C.getD k z3)) then (k : Int) else bestF g hv C k) else bestF g hv C k
theorem bestF_range {g : Sg} {hv : Bool} {C : List Lt3} : ∀ k, -1 ≤ bestF g hv C k ∧ bestF g hv C k < k
  | 0 => by simp [bestF]
  | k + 1 => by
    obtain ⟨h1, h2⟩ := bestF_range (g := g) (hv := hv) (C := C) k
    rw [bestF]
    split
    · split
      · omega
      · split <;> omega
    · omega
theorem bestF_neg {g : Sg} {hv : Bool} {C : List Lt3} : ∀ k, 0 ≤ bestF g hv C k → (C.getD (bestF g hv C k).toNat z3).neg = true
  | 0 => by simp [bestF]
  | k + 1 => by
    have ih := bestF_neg (g := g) (hv := hv) (C := C) k
    rw [bestF]
    split
    · rename_i h
      split
      · intro _; simpa using h
      · split
        · intro _; simpa using h
        · exact ih
    · exact ih
theorem bestF_none {g : Sg} {hv : Bool} {C : List Lt3} : ∀ k, bestF g hv C k < 0 ↔ ∀ j < k, (C.getD j z3).neg = false
  | 0 => by simp [bestF]
  | k + 1 => by
    have ih := bestF_none (g := g) (hv := hv) (C := C) k
    rw [bestF]
    constructor
    · intro h
      split at h
      · split at h
        · omega
        · split at h <;> omega
      · rename_i hn
        intro j hj
        by_cases e : j = k
        · subst e; simpa using hn
        · exact ih.1 h j (by omega)
    · intro h
      rw [h k (by omega), if_neg (by decide)]
      exact ih.2 fun j hj => h j (by omega)
/-- Of what comes behind only negative ones count. -/
theorem bestF_skip {g : Sg} {hv : Bool} {C : List Lt3} {k : Nat} : ∀ n, (∀ j, k ≤ j → j < n → (C.getD j z3).neg = false) → k ≤ n → bestF g hv C n = bestF g hv C k
  | 0, h, hk => by have : k = 0 := by omega
                   subst this; rfl
  | n + 1, h, hk => by
    by_cases e : k = n + 1
    · subst e; rfl
    · rw [bestF, h n (by omega) (by omega), if_neg (by decide)]
      exact bestF_skip n (fun j h1 h2 => h j h1 (by omega)) (by omega)
def pickL (g : Sg) (C : List Lt3) (how : Int) : List Int := if how = 0 then [] else if bestF g (decide (how = 2)) C C.length < 0 then [] else [bestF g (decide (how = 2)) C C.length]
def seE (g : Sg) (C : List Lt3) (how : Int) : Int := if errC g C = 0 then (if 0 ≤ how ∧ how ≤ 2 then 0 else 1) else errC g C
def seL (g : Sg) (C : List Lt3) (how : Int) : List Int := if errC g C = 0 then (if 0 ≤ how ∧ how ≤ 2 then pickL g C how else []) else []
theorem se_bad {g : Sg} {C : List Lt3} {how : Int} (h : errC g C ≠ 0) : seE g C how = errC g C ∧ seL g C how = [] := ⟨by unfold seE; rw [if_neg h], by unfold seL; rw [if_neg h]⟩
theorem se_out {g : Sg} {C : List Lt3} {how : Int} (h : errC g C = 0) (hh : ¬ (0 ≤ how ∧ how ≤ 2)) : seE g C how = 1 ∧ seL g C how = [] := ⟨by unfold seE; rw [if_pos h, if_neg hh], by unfold seL; rw [if_pos h, if_neg hh]⟩
theorem se_ok {g : Sg} {C : List Lt3} {how : Int} (h : errC g C = 0) (hh : 0 ≤ how ∧ how ≤ 2) : seE g C how = 0 ∧ seL g C how = pickL g C how := ⟨by unfold seE; rw [if_pos h, if_pos hh], by unfold seL; rw [if_pos h, if_pos hh]⟩
theorem seE_zero {g : Sg} {C : List Lt3} {how : Int} (h : seE g C how = 0) : errC g C = 0 ∧ (0 ≤ how ∧ how ≤ 2) := by
  unfold seE at h
  split at h
  · split at h
    · exact ⟨by assumption, by assumption⟩
    · cases h
  · contradiction
/-! ### With terms put -/
def ap3 (s : Sb) (x : Lt3) : Lt3 := ⟨x.neg, appT s x.l, appT s x.r⟩
def ak3 (s : Sb) (x : Lt3) : Int := if appE s x.l = 0 then appE s x.r else appE s x.l
def aks (s : Sb) : List Lt3 → Int
  | [] => 0
  | x :: c => if ak3 s x ≠ 0 then ak3 s x else aks s c
def acE (s : Sb) (C : List Lt3) : Int := if 32 < C.length then 2 else aks s C
def acL (s : Sb) (C : List Lt3) : List Lt3 := if acE s C = 0 then C.map (ap3 s) else []
theorem aks_ok {s : Sb} : ∀ {c : List Lt3}, aks s c = 0 ↔ ∀ x ∈ c, ak3 s x = 0
  | [] => by simp [aks]
  | x :: c => by
    rw [aks]
    by_cases h : ak3 s x = 0
    · rw [if_neg (fun e => e h), aks_ok]; simp [h]
    · rw [if_pos h]; simp [h]
theorem aks_drop {s : Sb} {c : List Lt3} {k : Nat} {x : Lt3} (h : c[k]? = some x) : aks s (c.drop k) = if ak3 s x ≠ 0 then ak3 s x else aks s (c.drop (k + 1)) := by
  obtain ⟨hk, rfl⟩ := List.getElem?_eq_some_iff.1 h
  rw [List.drop_eq_getElem_cons hk, aks]
theorem apK_ak (s : Sb) (x : LV) : apK s x = ak3 s x.t3 := rfl
theorem ac_ok {s : Sb} {C : List Lt3} (h : acE s C = 0) : C.length ≤ 32 ∧ (∀ x ∈ C, ak3 s x = 0) ∧ acL s C = C.map (ap3 s) := by
  refine ⟨?_, ?_, by unfold acL; rw [if_pos h]⟩
  · unfold acE at h
    split at h
    · cases h
    · omega
  · unfold acE at h
    split at h
    · cases h
    · exact aks_ok.1 h
theorem ac_bad {s : Sb} {C : List Lt3} (h : acE s C ≠ 0) : acL s C = [] := by unfold acL; rw [if_neg h]
theorem ak3_two {s : Sb} {x : Lt3} (h : ak3 s x = 0) : appE s x.l = 0 ∧ appE s x.r = 0 := by
  unfold ak3 at h
  split at h
  · exact ⟨by assumption, h⟩
  · contradiction
def myE (g : Sg) (C : List Lt3) (how i : Int) (s : Sb) : Int := if seE g C how = 0 then (if idxB C i then (if acE s C = 0 then errC g (acL s C) else acE s C) else 1) else seE g C how
def myR (g : Sg) (C : List Lt3) (how i : Int) (s : Sb) : Bool := if myE g C how i s = 0 then (if pickL g C how = [] then topC g (acL s C) i.toNat (!(C.getD i.toNat z3).neg) else decide (i ∈ pickL g C how)) else false
/-! ### Facts -/
theorem appE_ok {s : Sb} {t : T} (h : appE s t = 0) : appT s t = t.sub (ofS s) ∧ t.check = 0 ∧ (t.sub (ofS s)).check = 0 := by
  unfold appE at h
  split at h
  · rename_i hg
    refine ⟨?_, ?_, h⟩
    · unfold appT endT
      rw [if_pos hg, if_pos h]
    · have := hg
      simp [goodA] at this
      exact this.2
  · cases h
theorem errL_two {g : Sg} {l r : T} (h : errL g l r = 0) : errT g l = 0 ∧ errT g r = 0 := by
  unfold errL at h
  split at h
  · contradiction
  · rename_i h1
    split at h
    · contradiction
    · rename_i h2
      exact ⟨by simpa using h1, by simpa using h2⟩
theorem ap3_more {g : Sg} {s : Sb} {x z : Lt3} (hx : errL g x.l x.r = 0) (hz : errL g z.l z.r = 0) (ax : ak3 s x = 0) (az : ak3 s z = 0) (ox : errL g (ap3 s x).l (ap3 s x).r = 0) (h : standL g x z = 1) : standL g (ap3 s x) (ap3 s z) = 1 := by
  obtain ⟨x1, x2⟩ := errL_two hx
  obtain ⟨y1, y2⟩ := errL_two hz
  obtain ⟨u1, u2⟩ := errL_two ox
  obtain ⟨a1, a2⟩ := ak3_two ax
  obtain ⟨b1, b2⟩ := ak3_two az
  have hr := errT_right x1
  have e1 : ap3 s x = x.sub (ofS s) := by
    show Lt3.mk x.neg (appT s x.l) (appT s x.r) = _
    rw [(appE_ok a1).1, (appE_ok a2).1]; rfl
  have e2 : ap3 s z = z.sub (ofS s) := by
    show Lt3.mk z.neg (appT s z.l) (appT s z.r) = _
    rw [(appE_ok b1).1, (appE_ok b2).1]; rfl
  rw [e1] at u1 u2 ⊢
  rw [e2]
  refine standL_more.2 (GtLit.put (fun t ht => ?_) (fun t ht => ?_) (standL_more.1 h))
  · rcases ht with rfl | rfl
    · exact ⟨errT_bad x1, fun h hh hn => wt_pos hr (put_part (ofS s) _ _ (Nat.le_refl _) (errT_bad x1) (errT_okT u1) h hh hn)⟩
    · exact ⟨errT_bad x2, fun h hh hn => wt_pos hr (put_part (ofS s) _ _ (Nat.le_refl _) (errT_bad x2) (errT_okT u2) h hh hn)⟩
  · rcases ht with rfl | rfl
    · exact errT_bad y1
    · exact errT_bad y2
theorem standL_irr (g : Sg) (x : Lt3) : standL g x x ≠ 1 := fun h => GtLit.irrefl g x (standL_more.1 h)
/-- Some literal is maximal. -/
theorem top_some {g : Sg} {C : List Lt3} (hc : C ≠ []) : ∃ i < C.length, topC g C i false = true := by
  obtain ⟨x, hx⟩ := List.exists_mem_of_ne_nil C hc
  obtain ⟨z, hz, _, hm⟩ := exists_max (R := GtLit g) (GtLit.irrefl g) (fun _ _ _ => GtLit.trans) (fun _ => True) C ⟨x, hx, trivial⟩
  obtain ⟨i, hi, e⟩ := List.getElem_of_mem hz
  refine ⟨i, hi, topC_true fun k hk => ?_⟩
  have hzi : C[i]? = some z := by rw [List.getElem?_eq_getElem hi, e]
  have hk2 : C[k]? = some C[k] := List.getElem?_eq_getElem hk
  exact okX_three hk2 hzi (fun h => hm _ (List.getElem_mem hk) trivial (standL_more.1 h)) (.inl rfl)
theorem top_weak {g : Sg} {C : List Lt3} {i : Nat} (h : topC g C i true = true) : topC g C i false = true := topC_true fun k hk => by
  have := topC_all h k hk
  unfold okX hitL at this ⊢
  simp at this ⊢
  rcases this with e | e
  · exact .inl e
  · exact .inr e.1
theorem top_more {g : Sg} {C : List Lt3} {i k : Nat} {x z : Lt3} (h : topC g C i false = true) (hx : C[k]? = some x) (hz : C[i]? = some z) : standL g x z ≠ 1 := fun e => by
  by_cases hk : k = i
  · subst hk
    rw [hx] at hz; cases hz
    exact standL_irr g x e
  · have := topC_all h k (List.getElem?_eq_some_iff.1 hx).1
    rw [okX_one hk hx hz e] at this; cases this
theorem top_same {g : Sg} {C : List Lt3} {i k : Nat} {x z : Lt3} (h : topC g C i true = true) (hk : k ≠ i) (hx : C[k]? = some x) (hz : C[i]? = some z) : standL g x z ≠ 0 := fun e => by
  have := topC_all h k (List.getElem?_eq_some_iff.1 hx).1
  rw [okX_two hk hx hz e] at this; cases this
/-- With terms put. -/
theorem top_put {g : Sg} {C : List Lt3} {s : Sb} {i : Int} (h1 : acE s C = 0) (h2 : mxE g C i = 0) (h3 : mxE g (acL s C) i = 0) : mxR g C i false = true ∨ mxR g (acL s C) i true = false := by
  have hc : errC g C = 0 := by
    by_cases h : errC g C = 0
    · exact h
    · rw [(mx_bad (st := true) h).1] at h2; exact h2
  have hd : errC g (acL s C) = 0 := by
    by_cases h : errC g (acL s C) = 0
    · exact h
    · rw [(mx_bad (st := true) h).1] at h3; exact h3
  have hi : idxB C i = true := by
    cases h : idxB C i
    · rw [(mx_out (st := true) hc h).1] at h2; cases h2
    · rfl
  have hj : idxB (acL s C) i = true := by
    cases h : idxB (acL s C) i
    · rw [(mx_out (st := true) hd h).1] at h3; cases h3
    · rfl
  rw [(mx_ok (st := false) hc hi).2, (mx_ok (st := true) hd hj).2]
  cases ht : topC g C i.toNat false
  · right
    cases hs : topC g (acL s C) i.toNat true
    · rfl
    · exfalso
      obtain ⟨_, hak, hm⟩ := ac_ok h1
      rw [hm] at hs hd
      unfold idxB at hi
      simp at hi
      have hil : i.toNat < C.length := by omega
      have hw := top_weak hs
      have : topC g C i.toNat false = true := topC_true fun k hk => by
        have hx : C[k]? = some C[k] := List.getElem?_eq_getElem hk
        have hz : C[i.toNat]? = some C[i.toNat] := List.getElem?_eq_getElem hil
        have e1 := (errC_ok hc).2.2 C[k] (List.getElem_mem hk)
        have e2 := (errC_ok hc).2.2 C[i.toNat] (List.getElem_mem hil)
        have e3 := (errC_ok hd).2.2 (ap3 s C[k]) (List.mem_map.2 ⟨_, List.getElem_mem hk, rfl⟩)
        refine okX_three hx hz (fun h => ?_) (.inl rfl)
        have := ap3_more e1 e2 (hak _ (List.getElem_mem hk)) (hak _ (List.getElem_mem hil)) e3 h
        exact top_more hw (by rw [List.getElem?_map, hx]; rfl) (by rw [List.getElem?_map, hz]; rfl) this
      rw [this] at ht; cases ht
  · exact .inl rfl
/-! ### Without terms put -/
theorem app_nil {t : T} (h : t.check = 0) : appE [] t = 0 ∧ appT [] t = t := by
  have hs := sub_vt (check_ok h).2.2
  have hg : goodA [] t = true := by simp [goodA, rightS, h]
  refine ⟨by unfold appE; rw [if_pos hg, hs]; exact h, ?_⟩
  unfold appT endT
  rw [if_pos hg, hs, if_pos h]
theorem ac_nil {g : Sg} {C : List Lt3} (h : errC g C = 0) : acE [] C = 0 ∧ acL [] C = C := by
  obtain ⟨_, hl, hx⟩ := errC_ok h
  have hb : ∀ x ∈ C, ak3 [] x = 0 ∧ ap3 [] x = x := fun x h => by
    obtain ⟨h1, h2⟩ := errL_two (hx x h)
    obtain ⟨a1, a2⟩ := app_nil (errT_ok h1).2.1
    obtain ⟨b1, b2⟩ := app_nil (errT_ok h2).2.1
    refine ⟨by unfold ak3; rw [if_pos a1]; exact b1, ?_⟩
    show Lt3.mk x.neg (appT [] x.l) (appT [] x.r) = x
    rw [a2, b2]
  have he : acE [] C = 0 := by
    unfold acE
    rw [if_neg (by omega)]
    exact aks_ok.2 fun x h => (hb x h).1
  refine ⟨he, ?_⟩
  rw [(ac_ok he).2.2]
  exact (List.map_congr_left fun x h => (hb x h).2).trans (List.map_id C)
theorem pick_len (g : Sg) (C : List Lt3) (how : Int) : (pickL g C how).length ≤ 1 := by
  unfold pickL
  split
  · simp
  · split <;> simp
theorem pick_some (g : Sg) (C : List Lt3) (how : Int) : (decide (0 < (pickL g C how).length)) = (C.any (·.neg) && decide (how ≠ 0)) := by
  unfold pickL
  by_cases h : how = 0
  · rw [if_pos h]; simp [h]
  · rw [if_neg h]
    by_cases hb : bestF g (decide (how = 2)) C C.length < 0
    · rw [if_pos hb]
      have := (bestF_none C.length).1 hb
      have ha : C.any (·.neg) = false := by
        rw [List.any_eq_false]
        intro x hx
        obtain ⟨i, hi, e⟩ := List.getElem_of_mem hx
        have h2 := this i hi
        rw [getD_of (x := x) (by rw [List.getElem?_eq_getElem hi, e])] at h2
        simp [h2]
      rw [ha]; rfl
    · rw [if_neg hb]
      have hr := bestF_range (g := g) (hv := decide (how = 2)) (C := C) C.length
      have hn := bestF_neg (g := g) (hv := decide (how = 2)) (C := C) C.length (by omega)
      have ha : C.any (·.neg) = true := by
        rw [List.any_eq_true]
        refine ⟨C[(bestF g (decide (how = 2)) C C.length).toNat]'(by omega), List.getElem_mem _, ?_⟩
        rw [getD_of (List.getElem?_eq_getElem (by omega))] at hn
        exact hn
      rw [ha]; simp [h]
theorem pick_mem {g : Sg} {C : List Lt3} {how b : Int} (h : b ∈ pickL g C how) : ∃ j : Nat, b = j ∧ j < C.length ∧ (C.getD j z3).neg = true ∧ pickL g C how = [b] := by
  unfold pickL at h ⊢
  by_cases h0 : how = 0
  · rw [if_pos h0] at h; cases h
  · rw [if_neg h0] at h ⊢
    by_cases hb : bestF g (decide (how = 2)) C C.length < 0
    · rw [if_pos hb] at h; cases h
    · rw [if_neg hb] at h ⊢
      have hr := bestF_range (g := g) (hv := decide (how = 2)) (C := C) C.length
      have hn := bestF_neg (g := g) (hv := decide (how = 2)) (C := C) C.length (by omega)
      simp only [List.mem_cons, List.not_mem_nil, or_false] at h
      exact ⟨(bestF g (decide (how = 2)) C C.length).toNat, by omega, by omega, hn, by rw [h]⟩
theorem my_nil {g : Sg} {C : List Lt3} {how i : Int} (h : seE g C how = 0) : (idxB C i = false ∧ myE g C how i [] = 1) ∨ (idxB C i = true ∧ myE g C how i [] = 0 ∧ (pickL g C how = [] ∨ ∃ b, pickL g C how = [b] ∧ myR g C how i [] = decide (b = i))) := by
  obtain ⟨hc, _⟩ := seE_zero h
  obtain ⟨h1, h2⟩ := ac_nil hc
  cases hi : idxB C i
  · exact .inl ⟨rfl, by unfold myE; rw [if_pos h, hi]; rfl⟩
  · have he : myE g C how i [] = 0 := by unfold myE; rw [if_pos h, hi, if_pos rfl, if_pos h1, h2]; exact hc
    refine .inr ⟨rfl, he, ?_⟩
    by_cases hp : pickL g C how = []
    · exact .inl hp
    · obtain ⟨b, hb⟩ := List.exists_mem_of_ne_nil _ hp
      obtain ⟨_, _, _, _, e⟩ := pick_mem hb
      refine .inr ⟨b, e, ?_⟩
      unfold myR
      rw [if_pos he, if_neg hp, e]
      simp [eq_comm]
end Go.Proofs.YtpncmdlbmnmahaaGreat
