/- Robinson's solver in plain words: a solved substitution, and what one more binding makes of it. -/
import Derived.Test.YtcbjnfdhghhgeaaQ1i
import Derived.Test.YtcbjnfdhghhgeaaThen
namespace Go.Proofs.Ytcbjnfdhghhgeaa
set_option linter.unusedVariables false
set_option linter.unusedSimpArgs false
open Go.RowKit

mutual
theorem good_put (f : Int → T) (hf : ∀ v, 0 ≤ v → v ≤ 255 → bad (T.subs 1 (f v)) = false) (t : T) (hg : bad (T.subs 1 t) = false) : bad (T.subs 1 (t.sub f)) = false := by
  match t with
  | .node h ts =>
    by_cases q : h < 0
    · rw [show (T.node h ts).sub f = f (-1 - h) from T.sub_neg (t := .node h ts) q]
      have hk : okB h ts.length = true := good_head hg
      simp only [okB, if_pos q, Bool.and_eq_true, decide_eq_true_iff] at hk
      exact hf _ (by omega) hk.2
    · rw [show (T.node h ts).sub f = .node h (ts.map (T.sub f)) from T.sub_pos (t := .node h ts) q]
      have h3 := goods_put f hf ts fun s hs => by obtain ⟨i, hi⟩ := List.getElem?_of_mem hs; exact good_arg (t := .node h ts) hg hi
      have hok : okB h ts.length = true := good_head hg
      rw [bad_eq, T.head_node, T.args_node, List.length_map, h3, hok]
      rfl
theorem goods_put (f : Int → T) (hf : ∀ v, 0 ≤ v → v ≤ 255 → bad (T.subs 1 (f v)) = false) (ts : List T) (hg : ∀ s ∈ ts, bad (T.subs 1 s) = false) : bad (T.subss 2 (ts.map (T.sub f))) = false := by
  match ts with
  | [] => rfl
  | t :: ts =>
    have a3 := good_put f hf t (hg t (by simp))
    have b3 := goods_put f hf ts (fun s hs => hg s (by simp [hs]))
    rw [List.map_cons, T.subss]
    unfold bad at a3 b3 ⊢
    rw [List.any_append]
    have a3' := a3
    rw [show (T.subs 1 (T.sub f t)).any (fun x => !okB x.2.head x.2.args.length) = (T.subs 2 (T.sub f t)).any (fun x => !okB x.2.head x.2.args.length) from bad_level 1 2 _] at a3'
    rw [a3', b3]
    rfl
end
theorem mem_then {s u : Sb} : ∀ {L : List Int} {p : Int × T}, p ∈ thenL s u L ↔ p.1 ∈ L ∧ p.2 = thenT s u p.1 ∧ p.2.head ≠ -1 - p.1
  | [], p => by simp [thenL]
  | v :: vs, p => by
    rw [thenL]
    have ih := mem_then (s := s) (u := u) (L := vs) (p := p)
    split
    · rename_i h
      rw [ih]
      constructor
      · rintro ⟨h1, h2⟩; exact ⟨List.mem_cons_of_mem _ h1, h2⟩
      · rintro ⟨h1, h2, h3⟩
        rcases List.mem_cons.1 h1 with e | h1
        · rw [h2, e] at h3; exact absurd h h3
        · exact ⟨h1, h2, h3⟩
    · rename_i h
      rw [List.mem_cons, ih]
      constructor
      · rintro (rfl | ⟨h1, h2⟩)
        · exact ⟨List.mem_cons_self, rfl, h⟩
        · exact ⟨List.mem_cons_of_mem _ h1, h2⟩
      · rintro ⟨h1, h2, h3⟩
        rcases List.mem_cons.1 h1 with e | h1
        · exact .inl (Prod.ext e (by rw [h2, e]))
        · exact .inr ⟨h1, h2, h3⟩
theorem then_rise {s u : Sb} : ∀ {L : List Int}, L.Pairwise (· < ·) → ((thenL s u L).map Prod.fst).Pairwise (· < ·)
  | [], _ => by simp [thenL]
  | v :: vs, h => by
    rw [List.pairwise_cons] at h
    have ih := then_rise (s := s) (u := u) h.2
    rw [thenL]
    split
    · exact ih
    · rw [List.map_cons, List.pairwise_cons]
      refine ⟨fun z hz => ?_, ih⟩
      obtain ⟨p, hp, rfl⟩ := List.mem_map.1 hz
      exact h.1 _ (mem_then.1 hp).1

/-- θ solves all that s says. -/
def ES (s : Sb) (θ : Int → T) : Prop := ∀ p ∈ s, θ p.1 = p.2.sub θ
/-- θ solves all pairs. -/
def EL (l : List (T × T)) (θ : Int → T) : Prop := ∀ p ∈ l, p.1.sub θ = p.2.sub θ
/-- s is solved: it is the most general one that solves itself. -/
def Tri (s : Sb) : Prop := IsMgu (ES s) s

theorem Tri.nil : Tri [] := ⟨by simp, by simp, by simp, by simp, by simp, by simp [ES], fun θ _ v h0 _ => by
  rw [show ofS [] v = vt v from rfl, vt_sub h0]⟩
theorem Tri.free' {s : Sb} (h : Tri s) {p : Int × T} (hp : p ∈ s) {g : Int} (hg : g ∈ p.2.heads) (hn : g < 0) : bnd s (-1 - g) = false := by
  obtain ⟨q, hq, rfl⟩ := List.mem_map.1 hg
  exact h.free p hp q hq hn
theorem tri_of {s : Sb} (h1 : (s.map Prod.fst).Pairwise (· < ·)) (h2 : ∀ p ∈ s, 0 ≤ p.1 ∧ p.1 ≤ 255) (h3 : ∀ p ∈ s, bad (T.subs 1 p.2) = false) (h4 : ∀ p ∈ s, ∀ g ∈ p.2.heads, g < 0 → bnd s (-1 - g) = false) (h5 : ∀ p ∈ s, p.2.head < 0 → -1 - p.2.head < p.1) : Tri s := by
  refine ⟨h1, h2, h3, fun p hp q hq hn => h4 p hp _ (List.mem_map.2 ⟨q, hq, rfl⟩) hn, h5, fun p hp => ?_, fun θ hθ v h0 _ => ?_⟩
  · rw [ofS_mem h1 hp]
    exact (sub_self _ _ p.2 (Nat.le_refl _) (h3 p hp) (fun g hg hn => ofS_unbound (h4 p hp g hg hn))).symm
  · cases hb : bnd s v
    · rw [ofS_unbound hb, vt_sub h0]
    · exact hθ _ (mem_of_bnd h1 hb)
theorem Tri.good_of {s : Sb} (h : Tri s) {v : Int} (h0 : 0 ≤ v) (h1 : v ≤ 255) : bad (T.subs 1 (ofS s v)) = false := by
  cases hb : bnd s v
  · rw [ofS_unbound hb]; exact (check_ok (vt_check h0 h1)).2.2
  · exact h.good _ (mem_of_bnd h.rise hb)
/-- What is put knows no bound variable. -/
theorem Tri.put_free {s : Sb} (h : Tri s) {t : T} (hg : bad (T.subs 1 t) = false) {g : Int} (hm : g ∈ (t.sub (ofS s)).heads) (hn : g < 0) : bnd s (-1 - g) = false := by
  obtain ⟨k, _, hk, hm⟩ := (heads_sub (ofS s) t.size t (Nat.le_refl _) hg g hn).1 hm
  cases hb : bnd s (-1 - k)
  · rw [ofS_unbound hb] at hm
    have : g = k := by rw [T.heads_eq] at hm; simpa [vt, T.head, T.args, show -1 - (-1 - k) = k from by omega] using hm
    rw [this]; exact hb
  · exact h.free' (mem_of_bnd h.rise hb) hm hn
theorem Tri.solve_put {s : Sb} (h : Tri s) {θ : Int → T} (hθ : ES s θ) {t : T} (hg : bad (T.subs 1 t) = false) : t.sub θ = (t.sub (ofS s)).sub θ := by
  rw [T.sub_sub]
  exact sub_congr t.size t (Nat.le_refl _) hg fun v h0 h1 => h.most θ hθ v h0 h1

/-- One more binding: v, which is free, to b, which knows no bound variable and not v. -/
theorem bind_tri {s : Sb} (hT : Tri s) {v : Int} {b : T} (h0 : 0 ≤ v) (h1 : v ≤ 255) (hv : bnd s v = false) (hb : bad (T.subs 1 b) = false) (hbv : ∀ h ∈ b.heads, h < 0 → bnd s (-1 - h) = false) (hn : -1 - v ∉ b.heads) (ho : b.head < 0 → -1 - b.head < v) :
    Tri (thenL s [(v, b)] allV) ∧ (∀ θ, ES (thenL s [(v, b)] allV) θ ↔ ES s θ ∧ θ v = b.sub θ) ∧ (∀ z, 0 ≤ z → z ≤ 255 → ofS (thenL s [(v, b)] allV) z = (ofS s z).sub (ofS [(v, b)])) ∧ ∀ z, bnd (thenL s [(v, b)] allV) z = (bnd s z || decide (z = v)) := by
  have hbh : b.head ∈ b.heads := by rw [T.heads_eq]; simp
  have hu : ∀ z, ofS [(v, b)] z = if v = z then b else vt z := fun z => rfl
  have huv : ofS [(v, b)] v = b := by rw [hu, if_pos rfl]
  have hun : ∀ z, z ≠ v → ofS [(v, b)] z = vt z := fun z hz => by rw [hu, if_neg (fun e => hz e.symm)]
  have kv : thenT s [(v, b)] v = b := by unfold thenT; rw [ofS_unbound hv, vt_sub h0, huv]
  have k1 : ∀ z, 0 ≤ z → bnd s z = false → z ≠ v → thenT s [(v, b)] z = vt z := fun z hz hb hne => by unfold thenT; rw [ofS_unbound hb, vt_sub hz, hun z hne]
  have k3 : ∀ z, bnd s z = true → (thenT s [(v, b)] z).head ≠ -1 - z ∧ ((thenT s [(v, b)] z).head < 0 → -1 - (thenT s [(v, b)] z).head < z) := fun z hz => by
    have hm := mem_of_bnd hT.rise hz
    have hgd := hT.good _ hm
    have hor := hT.orient _ hm
    have hlo := hT.low _ hm
    dsimp only at hgd hor hlo
    unfold thenT
    by_cases q : (ofS s z).head < 0
    · rw [T.sub_neg q]
      have := hor q
      by_cases e : -1 - (ofS s z).head = v
      · rw [e, huv]
        exact ⟨fun e2 => by have := ho (by omega); omega, fun e2 => by have := ho e2; omega⟩
      · rw [hun _ e]
        exact ⟨by rw [vt_head]; omega, fun _ => by rw [vt_head]; omega⟩
    · rw [T.sub_pos q, T.head_node]
      exact ⟨by omega, fun e => absurd e q⟩
  have hmem : ∀ p : Int × T, p ∈ thenL s [(v, b)] allV ↔ (bnd s p.1 = true ∨ p.1 = v) ∧ p.2 = thenT s [(v, b)] p.1 := fun p => by
    rw [mem_then, mem_allV]
    constructor
    · rintro ⟨⟨c0, c1⟩, c2, c3⟩
      refine ⟨?_, c2⟩
      cases hz : bnd s p.1
      · right
        apply Classical.byContradiction
        intro hne
        rw [c2, k1 p.1 c0 hz hne, vt_head] at c3
        exact c3 rfl
      · exact .inl rfl
    · rintro ⟨hz, c2⟩
      rcases hz with hz | hz
      · have hlo := hT.low _ (mem_of_bnd hT.rise hz)
        exact ⟨hlo, c2, by rw [c2]; exact (k3 p.1 hz).1⟩
      · exact ⟨by omega, c2, by rw [c2, hz, kv]; exact fun e => hn (e ▸ hbh)⟩
  have hbnd : ∀ z, bnd (thenL s [(v, b)] allV) z = (bnd s z || decide (z = v)) := fun z => by
    rw [Bool.eq_iff_iff, bnd_mem, Bool.or_eq_true, decide_eq_true_iff, List.mem_map]
    constructor
    · rintro ⟨p, hp, rfl⟩; exact ((hmem p).1 hp).1
    · intro hz; exact ⟨(z, thenT s [(v, b)] z), (hmem _).2 ⟨hz, rfl⟩, rfl⟩
  have hugood : ∀ z, 0 ≤ z → z ≤ 255 → bad (T.subs 1 (ofS [(v, b)] z)) = false := fun z c0 c1 => by
    by_cases e : z = v
    · rw [e, huv]; exact hb
    · rw [hun z e]; exact (check_ok (vt_check c0 c1)).2.2
  have hlow : ∀ p ∈ thenL s [(v, b)] allV, 0 ≤ p.1 ∧ p.1 ≤ 255 := fun p hp => mem_allV.1 (mem_then.1 hp).1
  have hrise := then_rise (s := s) (u := [(v, b)]) allV_rising
  have htri : Tri (thenL s [(v, b)] allV) := by
    refine tri_of hrise hlow (fun p hp => ?_) (fun p hp g hg hgn => ?_) (fun p hp hpn => ?_)
    · have hl := hlow p hp
      rw [((hmem p).1 hp).2]
      exact good_put _ hugood _ (hT.good_of hl.1 hl.2)
    · have hl := hlow p hp
      rw [((hmem p).1 hp).2] at hg
      obtain ⟨k, hk, hkn, hgk⟩ := (heads_sub (ofS [(v, b)]) _ _ (Nat.le_refl _) (hT.good_of hl.1 hl.2) g hgn).1 hg
      have hkb : bnd s (-1 - k) = false := by
        cases hz : bnd s p.1
        · rw [ofS_unbound hz] at hk
          have : k = -1 - p.1 := by rw [T.heads_eq] at hk; simpa [vt, T.head, T.args] using hk
          rw [this, show -1 - (-1 - p.1) = p.1 from by omega]; exact hz
        · exact hT.free' (mem_of_bnd hT.rise hz) hk hkn
      rw [hbnd, Bool.or_eq_false_iff, decide_eq_false_iff_not]
      by_cases e : -1 - k = v
      · rw [e, huv] at hgk
        exact ⟨hbv g hgk hgn, fun e2 => hn (by rw [← e2, show -1 - (-1 - g) = g from by omega]; exact hgk)⟩
      · rw [hun _ e] at hgk
        have : g = k := by rw [T.heads_eq] at hgk; simpa [vt, T.head, T.args, show -1 - (-1 - k) = k from by omega] using hgk
        rw [this]; exact ⟨hkb, e⟩
    · obtain ⟨hz, e⟩ := (hmem p).1 hp
      rw [e] at hpn ⊢
      rcases hz with hz | hz
      · exact (k3 p.1 hz).2 hpn
      · rw [hz, kv] at hpn ⊢; exact ho hpn
  have hof : ∀ z, 0 ≤ z → z ≤ 255 → ofS (thenL s [(v, b)] allV) z = (ofS s z).sub (ofS [(v, b)]) := fun z c0 c1 => by
    cases hz : bnd (thenL s [(v, b)] allV) z
    · rw [ofS_unbound hz]
      rw [hbnd, Bool.or_eq_false_iff, decide_eq_false_iff_not] at hz
      exact (k1 z c0 hz.1 hz.2).symm
    · exact ((hmem _).1 (mem_of_bnd hrise hz)).2
  have huθ : ∀ θ : Int → T, θ v = b.sub θ → ∀ z, 0 ≤ z → (ofS [(v, b)] z).sub θ = θ z := fun θ e z c0 => by
    by_cases ez : z = v
    · rw [ez, huv, e]
    · rw [hun z ez, vt_sub c0]
  refine ⟨htri, fun θ => ⟨fun hθ => ?_, fun ⟨hθ, e⟩ p hp => ?_⟩, hof, hbnd⟩
  · have hv2 : θ v = b.sub θ := by
      have := htri.most θ hθ v h0 h1
      rw [hof v h0 h1] at this
      have k := kv
      unfold thenT at k
      rw [k] at this
      exact this
    refine ⟨fun p hp => ?_, hv2⟩
    have hl := hT.low p hp
    have := htri.most θ hθ p.1 hl.1 hl.2
    rw [hof p.1 hl.1 hl.2, T.sub_sub, ofS_mem hT.rise hp] at this
    rw [this]
    exact sub_congr _ p.2 (Nat.le_refl _) (hT.good p hp) fun z c0 _ => huθ θ hv2 z c0
  · have hl := hlow p hp
    rw [((hmem p).1 hp).2]
    unfold thenT
    rw [T.sub_sub, sub_congr _ _ (Nat.le_refl _) (hT.good_of hl.1 hl.2) (g := θ) fun z c0 _ => huθ θ e z c0]
    exact hT.most θ hθ p.1 hl.1 hl.2

end Go.Proofs.Ytcbjnfdhghhgeaa
