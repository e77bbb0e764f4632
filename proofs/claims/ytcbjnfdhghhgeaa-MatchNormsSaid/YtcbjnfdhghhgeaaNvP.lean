/- Norms and variants in plain words. -/
import Derived.Test.YtcbjnfdhghhgeaaNrm
import Derived.Test.YtcbjnfdhghhgeaaWMBe
namespace Go.Proofs.Ytcbjnfdhghhgeaa
set_option linter.unusedVariables false
set_option linter.unusedSimpArgs false
open Go.RowKit

theorem ix_map {ρ : Int → Int} {P : Int → Prop} (hinj : ∀ u v, P u → P v → ρ u = ρ v → u = v) {L : List Int} (hL : ∀ u ∈ L, P u) {v : Int} (hv : P v) : ix (L.map ρ) (ρ v) = ix L v := by
  unfold ix
  congr 1
  induction L with
  | nil => rfl
  | cons u L ih =>
    rw [List.map_cons, List.idxOf_cons, List.idxOf_cons]
    by_cases e : u = v
    · subst e; simp
    · have hne : ¬ ρ u = ρ v := fun h => e (hinj u v (hL u (by simp)) hv h)
      rw [show (ρ u == ρ v) = false from by simpa using hne, show (u == v) = false from by simpa using e]
      simp only [cond_false]
      rw [ih fun x hx => hL x (by simp [hx])]
theorem ddStep_map {ρ : Int → Int} {P : Int → Prop} (hinj : ∀ u v, P u → P v → ρ u = ρ v → u = v) {N : List Int} (hN : ∀ u ∈ N, P u) {v : Int} (hv : P v) : ddStep (N.map ρ) (ρ v) = (ddStep N v).map ρ := by
  unfold ddStep
  by_cases h : v ∈ N
  · rw [if_pos (by simp; exact ⟨v, h, rfl⟩), if_pos (by simpa using h)]
  · rw [if_neg (by simp; intro u hu e; exact h (hinj u v (hN u hu) hv e ▸ hu)), if_neg (by simpa using h)]
    simp
mutual
theorem T.nrm_ren (ρ : Int → Int) (P : Int → Prop) (hinj : ∀ u v, P u → P v → ρ u = ρ v → u = v) (hpos : ∀ v, P v → 0 ≤ ρ v) (t : T) (hg : bad (T.subs 1 t) = false) (hP : ∀ h ∈ t.heads, h < 0 → P (-1 - h)) (N : List Int) (hN : ∀ v ∈ N, P v) :
    (t.sub (fun v => vt (ρ v))).nrm (N.map ρ) = ((t.nrm N).1, (t.nrm N).2.map ρ) ∧ ∀ v ∈ (t.nrm N).2, P v := by
  match t with
  | .node h ts =>
    by_cases q : h < 0
    · have hv : P (-1 - h) := hP h (by rw [T.heads_eq]; simp [T.head]) q
      have hp := hpos _ hv
      have e1 : (T.node h ts).sub (fun v => vt (ρ v)) = vt (ρ (-1 - h)) := T.sub_neg (t := .node h ts) q
      rw [e1, T.nrm_neg (t := vt (ρ (-1 - h))) (by rw [vt_head]; omega), vt_head, show -1 - (-1 - ρ (-1 - h)) = ρ (-1 - h) from by omega, T.nrm_neg (t := .node h ts) q]
      simp only [T.head]
      have hdd : ∀ u ∈ ddStep N (-1 - h), P u := fun u hu => by
        rcases mem_ddStep.1 hu with hu | rfl
        · exact hN u hu
        · exact hv
      rw [ddStep_map hinj hN hv, ix_map hinj hdd hv]
      exact ⟨rfl, hdd⟩
    · have e1 : (T.node h ts).sub (fun v => vt (ρ v)) = .node h (ts.map (T.sub (fun v => vt (ρ v)))) := T.sub_pos (t := .node h ts) q
      rw [e1, T.nrm_pos (t := .node h (ts.map (T.sub (fun v => vt (ρ v))))) q, T.nrm_pos (t := .node h ts) q]
      simp only [T.head, T.args]
      have hgs : ∀ s ∈ ts, bad (T.subs 1 s) = false := fun s hs => by obtain ⟨i, hi⟩ := List.getElem?_of_mem hs; exact good_arg (t := .node h ts) hg hi
      have hPs : ∀ s ∈ ts, ∀ g ∈ s.heads, g < 0 → P (-1 - g) := fun s hs g hg' hn => by obtain ⟨i, hi⟩ := List.getElem?_of_mem hs; exact hP g (heads_arg (t := .node h ts) hi hg') hn
      obtain ⟨h1, h2⟩ := T.nrms_ren ρ P hinj hpos ts hgs hPs N hN
      rw [h1]
      exact ⟨rfl, h2⟩
theorem T.nrms_ren (ρ : Int → Int) (P : Int → Prop) (hinj : ∀ u v, P u → P v → ρ u = ρ v → u = v) (hpos : ∀ v, P v → 0 ≤ ρ v) (ts : List T) (hg : ∀ s ∈ ts, bad (T.subs 1 s) = false) (hP : ∀ s ∈ ts, ∀ h ∈ s.heads, h < 0 → P (-1 - h)) (N : List Int) (hN : ∀ v ∈ N, P v) :
    T.nrms (ts.map (T.sub (fun v => vt (ρ v)))) (N.map ρ) = ((T.nrms ts N).1, (T.nrms ts N).2.map ρ) ∧ ∀ v ∈ (T.nrms ts N).2, P v := by
  match ts with
  | [] => exact ⟨rfl, hN⟩
  | t :: ts =>
    obtain ⟨h1, h2⟩ := T.nrm_ren ρ P hinj hpos t (hg t (by simp)) (hP t (by simp)) N hN
    obtain ⟨h3, h4⟩ := T.nrms_ren ρ P hinj hpos ts (fun s hs => hg s (by simp [hs])) (fun s hs => hP s (by simp [hs])) (t.nrm N).2 h2
    rw [List.map_cons, T.nrms, T.nrms, h1]
    simp only
    rw [h3]
    exact ⟨rfl, h4⟩
end
theorem ix_prefix {L E : List Int} {v : Int} (h : v ∈ L) : ix (L ++ E) v = ix L v := by
  unfold ix
  rw [List.idxOf_append, if_pos h]
mutual
/-- What Norm makes of a term: its variables become their numbers. -/
theorem T.nrm_sub (t : T) (hg : bad (T.subs 1 t) = false) (N : List Int) : (∃ E, (t.nrm N).2 = N ++ E) ∧ (∀ v, v ∈ (t.nrm N).2 ↔ v ∈ N ∨ v ∈ vars1 t) ∧ ∀ E, (t.nrm N).1 = t.sub (fun v => vt (ix ((t.nrm N).2 ++ E) v)) := by
  match t with
  | .node h ts =>
    by_cases q : h < 0
    · rw [T.nrm_neg (t := .node h ts) q]
      simp only [T.head]
      refine ⟨?_, fun v => ?_, fun E => ?_⟩
      · unfold ddStep
        split
        · exact ⟨[], by simp⟩
        · exact ⟨_, rfl⟩
      · rw [mem_ddStep, vars1_leaf hg q]
        simp [T.head]
      · rw [T.sub_neg (t := .node h ts) q]
        simp only [T.head]
        rw [ix_prefix (mem_ddStep.2 (.inr rfl))]
        rfl
    · rw [T.nrm_pos (t := .node h ts) q]
      simp only [T.head, T.args]
      have hgs : ∀ s ∈ ts, bad (T.subs 1 s) = false := fun s hs => by obtain ⟨i, hi⟩ := List.getElem?_of_mem hs; exact good_arg (t := .node h ts) hg hi
      obtain ⟨h1, h2, h3⟩ := T.nrms_sub ts hgs N
      refine ⟨h1, fun v => ?_, fun E => ?_⟩
      · rw [h2, vars1_node (t := .node h ts) q]
        simp [T.args]
      · rw [T.sub_pos (t := .node h ts) q]
        simp only [T.head, T.args]
        rw [h3 E]
theorem T.nrms_sub (ts : List T) (hg : ∀ s ∈ ts, bad (T.subs 1 s) = false) (N : List Int) : (∃ E, (T.nrms ts N).2 = N ++ E) ∧ (∀ v, v ∈ (T.nrms ts N).2 ↔ v ∈ N ∨ ∃ s ∈ ts, v ∈ vars1 s) ∧ ∀ E, (T.nrms ts N).1 = ts.map (T.sub (fun v => vt (ix ((T.nrms ts N).2 ++ E) v))) := by
  match ts with
  | [] => exact ⟨⟨[], by simp [T.nrms]⟩, by simp [T.nrms], by simp [T.nrms]⟩
  | t :: ts =>
    obtain ⟨⟨E1, a1⟩, a2, a3⟩ := T.nrm_sub t (hg t (by simp)) N
    obtain ⟨⟨E2, b1⟩, b2, b3⟩ := T.nrms_sub ts (fun s hs => hg s (by simp [hs])) (t.nrm N).2
    simp only [T.nrms]
    refine ⟨⟨E1 ++ E2, by rw [b1, a1, List.append_assoc]⟩, fun v => ?_, fun E => ?_⟩
    · rw [b2, a2]
      simp [or_assoc]
    · rw [List.map_cons, ← b3 E]
      congr 1
      rw [b1, List.append_assoc]
      exact a3 (E2 ++ E)
end
theorem good_sub_of {f : Int → T} : ∀ (S : Nat) (t : T), t.size ≤ S → bad (T.subs 1 t) = false → bad (T.subs 1 (t.sub f)) = false → ∀ h ∈ t.heads, h < 0 → bad (T.subs 1 (f (-1 - h))) = false := by
  intro S
  induction S with
  | zero => intro t ht; have := T.size_pos t; omega
  | succ S ih =>
    intro t ht hg hgs h hh hneg
    rw [T.heads_eq] at hh
    by_cases q : t.head < 0
    · rw [good_leaf hg q] at hh
      simp at hh
      subst hh
      rw [T.sub_neg q] at hgs
      exact hgs
    · rcases List.mem_cons.1 hh with rfl | hh
      · exact absurd hneg q
      · simp only [List.mem_flatten, List.mem_map] at hh
        obtain ⟨_, ⟨x, hx, rfl⟩, hh⟩ := hh
        obtain ⟨i, hi⟩ := List.getElem?_of_mem hx
        have h2 : (t.sub f).args[i]? = some (x.sub f) := by rw [T.sub_pos q, T.args_node, List.getElem?_map, hi]; rfl
        exact ih x (by have := size_args hx; omega) (good_arg hg hi) (good_arg hgs h2) h hh hneg
/-- Two terms that are instances of one another have one Norm. -/
theorem nrm_variant {a b : T} {θ φ : Int → T} (ha : bad (T.subs 1 a) = false) (hb : bad (T.subs 1 b) = false) (h1 : a.sub θ = b) (h2 : b.sub φ = a) : (a.nrm []).1 = (b.nrm []).1 := by
  have hid : a.sub (fun v => (θ v).sub φ) = a.sub (ofS []) := by rw [← T.sub_sub, h1, h2, sub_vt ha]
  have hv : ∀ v ∈ vars1 a, (θ v).sub φ = vt v ∧ θ v = vt (-1 - (θ v).head) ∧ 0 ≤ -1 - (θ v).head := fun v hv => by
    obtain ⟨m1, m2⟩ := (mem_vars' _ _).1 hv
    have e := sub_inj_vars (f := fun v => (θ v).sub φ) (g := ofS []) _ a (Nat.le_refl _) ha hid (-1 - v) m1 (by omega)
    simp only [show -1 - (-1 - v) = v from by omega] at e
    have e' : (θ v).sub φ = vt v := e
    have hgv : bad (T.subs 1 (θ v)) = false := by
      have := good_sub_of (f := θ) _ a (Nat.le_refl _) ha (by rw [h1]; exact hb) (-1 - v) m1 (by omega)
      rwa [show -1 - (-1 - v) = v from by omega] at this
    have hneg : (θ v).head < 0 := by
      by_cases q : (θ v).head < 0
      · exact q
      · rw [T.sub_pos q] at e'
        have := congrArg T.head e'
        rw [vt_head, T.head_node] at this
        have h0 := m2
        omega
    refine ⟨e', ?_, by omega⟩
    have := good_leaf hgv hneg
    conv => lhs; rw [← T.eta (θ v), this]
    unfold vt
    congr 1
    omega
  obtain ⟨h3, _⟩ := T.nrm_ren (fun v => -1 - (θ v).head) (fun v => v ∈ vars1 a) (fun u v hu hv' e => by
    have e1 := (hv u hu).1
    have e2 := (hv v hv').1
    rw [(hv u hu).2.1] at e1
    rw [(hv v hv').2.1, ← e, e1] at e2
    have := congrArg T.head e2
    rw [vt_head, vt_head] at this
    omega) (fun v h => (hv v h).2.2) a ha (fun h hh hn => (mem_vars' _ _).2 ⟨by rw [show -1 - (-1 - h) = h from by omega]; exact hh, by omega⟩) [] (by simp)
  have hb2 : a.sub (fun v => vt (-1 - (θ v).head)) = b := by
    rw [← h1]
    refine sub_congr_vars _ a (Nat.le_refl _) ha fun h hh hn => ?_
    exact ((hv (-1 - h) ((mem_vars' _ _).2 ⟨by rw [show -1 - (-1 - h) = h from by omega]; exact hh, by omega⟩)).2.1).symm
  rw [hb2] at h3
  have := congrArg Prod.fst h3
  simpa using this.symm

mutual
theorem ren_shape (ρ : Int → Int) (t : T) (hg : bad (T.subs 1 t) = false) (hb : ∀ h ∈ t.heads, h < 0 → 0 ≤ ρ (-1 - h) ∧ ρ (-1 - h) ≤ 255) : (t.sub (fun v => vt (ρ v))).size = t.size ∧ (t.sub (fun v => vt (ρ v))).depth = t.depth ∧ bad (T.subs 1 (t.sub (fun v => vt (ρ v)))) = false := by
  match t with
  | .node h ts =>
    by_cases q : h < 0
    · have e1 : (T.node h ts).sub (fun v => vt (ρ v)) = vt (ρ (-1 - h)) := T.sub_neg (t := .node h ts) q
      have e2 : ts = [] := good_leaf (t := .node h ts) hg q
      have h3 := hb h (by rw [T.heads_eq]; simp [T.head]) q
      rw [e1, e2]
      refine ⟨by simp [vt, T.size, T.sizes], by simp [vt, T.depth, T.depths], (check_ok (vt_check h3.1 h3.2)).2.2⟩
    · have e1 : (T.node h ts).sub (fun v => vt (ρ v)) = .node h (ts.map (T.sub (fun v => vt (ρ v)))) := T.sub_pos (t := .node h ts) q
      have hgs : ∀ s ∈ ts, bad (T.subs 1 s) = false := fun s hs => by obtain ⟨i, hi⟩ := List.getElem?_of_mem hs; exact good_arg (t := .node h ts) hg hi
      have hPs : ∀ s ∈ ts, ∀ g ∈ s.heads, g < 0 → 0 ≤ ρ (-1 - g) ∧ ρ (-1 - g) ≤ 255 := fun s hs g hg' hn => by obtain ⟨i, hi⟩ := List.getElem?_of_mem hs; exact hb g (heads_arg (t := .node h ts) hi hg') hn
      obtain ⟨h1, h2, h3⟩ := rens_shape ρ ts hgs hPs
      have hok := good_head hg
      rw [e1]
      refine ⟨by simp only [T.size]; omega, by simp only [T.depth]; omega, ?_⟩
      rw [bad_eq, T.head_node, T.args_node, List.length_map, h3]
      have hok' : okB h ts.length = true := hok
      rw [hok']
      rfl
theorem rens_shape (ρ : Int → Int) (ts : List T) (hg : ∀ s ∈ ts, bad (T.subs 1 s) = false) (hb : ∀ s ∈ ts, ∀ h ∈ s.heads, h < 0 → 0 ≤ ρ (-1 - h) ∧ ρ (-1 - h) ≤ 255) : T.sizes (ts.map (T.sub (fun v => vt (ρ v)))) = T.sizes ts ∧ T.depths (ts.map (T.sub (fun v => vt (ρ v)))) = T.depths ts ∧ bad (T.subss 2 (ts.map (T.sub (fun v => vt (ρ v))))) = false := by
  match ts with
  | [] => exact ⟨rfl, rfl, rfl⟩
  | t :: ts =>
    obtain ⟨a1, a2, a3⟩ := ren_shape ρ t (hg t (by simp)) (hb t (by simp))
    obtain ⟨b1, b2, b3⟩ := rens_shape ρ ts (fun s hs => hg s (by simp [hs])) (fun s hs => hb s (by simp [hs]))
    refine ⟨by simp only [List.map_cons, T.sizes]; omega, by simp only [List.map_cons, T.depths]; omega, ?_⟩
    rw [List.map_cons, T.subss]
    unfold bad at a3 b3 ⊢
    rw [List.any_append]
    have a3' := a3
    rw [show (T.subs 1 (T.sub (fun v => vt (ρ v)) t)).any (fun x => !okB x.2.head x.2.args.length) = (T.subs 2 (T.sub (fun v => vt (ρ v)) t)).any (fun x => !okB x.2.head x.2.args.length) from bad_level 1 2 _] at a3'
    rw [a3', b3]
    rfl
end
theorem rising_len : ∀ (L : List Int) (l : Int), L.Pairwise (· < ·) → (∀ v ∈ L, l ≤ v ∧ v ≤ 255) → l ≤ 256 → l + L.length ≤ 256
  | [], l, _, _, h => by simpa using h
  | v :: L, l, hp, hb, h => by
    rw [List.pairwise_cons] at hp
    have h0 := hb v (by simp)
    have := rising_len L (v + 1) hp.2 (fun u hu => ⟨by have := hp.1 u hu; omega, (hb u (by simp [hu])).2⟩) (by omega)
    simp
    omega
theorem nrm_nodup (t : T) (hg : bad (T.subs 1 t) = false) : (t.nrm []).2.Nodup := by
  have dd1 : ∀ (N : List Int) v, N.Nodup → (ddStep N v).Nodup := fun N v h => by
    unfold ddStep
    split
    · exact h
    · rename_i hc
      rw [List.nodup_append]
      refine ⟨h, by simp, fun a ha b hb => ?_⟩
      obtain rfl := List.mem_singleton.1 hb
      rintro rfl
      exact hc (by simpa using ha)
  have key : ∀ (S : Nat), (∀ t : T, t.size ≤ S → ∀ N : List Int, N.Nodup → (t.nrm N).2.Nodup) ∧ (∀ ts : List T, T.sizes ts ≤ S → ∀ N : List Int, N.Nodup → (T.nrms ts N).2.Nodup) := by
    intro S
    induction S with
    | zero =>
      refine ⟨fun t ht => by have := T.size_pos t; omega, fun ts ht N hN => ?_⟩
      cases ts with
      | nil => exact hN
      | cons t ts => have := T.size_pos t; simp [T.sizes] at ht; omega
    | succ S ih =>
      have h1 : ∀ t : T, t.size ≤ S + 1 → ∀ N : List Int, N.Nodup → (t.nrm N).2.Nodup := fun t ht N hN => by
        by_cases q : t.head < 0
        · rw [T.nrm_neg q]; exact dd1 _ _ hN
        · rw [T.nrm_pos q]; exact ih.2 _ (by have := T.size_eq t; omega) N hN
      refine ⟨h1, fun ts ht N hN => ?_⟩
      cases ts with
      | nil => exact hN
      | cons t ts =>
        simp only [T.nrms]
        have := T.size_pos t
        simp only [T.sizes] at ht
        exact ih.2 ts (by omega) _ (h1 t (by omega) N hN)
  exact (key t.size).1 t (Nat.le_refl _) [] List.nodup_nil
/-- The Norm of a valid term: valid, its own Norm, and a variant. -/
theorem nrm_facts {a : T} (hc : a.check = 0) : (a.nrm []).1.check = 0 ∧ ((a.nrm []).1.nrm []).1 = (a.nrm []).1 ∧ (∃ θ, a.sub θ = (a.nrm []).1) ∧ ∃ φ, (a.nrm []).1.sub φ = a := by
  obtain ⟨c1, c2, c3⟩ := check_ok hc
  obtain ⟨_, hmem, hsub⟩ := T.nrm_sub a c3 []
  have hs := hsub []
  rw [List.append_nil] at hs
  have hV : ∀ v, v ∈ (a.nrm []).2 ↔ v ∈ vars1 a := fun v => by rw [hmem]; simp
  have hnd := nrm_nodup a c3
  obtain ⟨V, hVe⟩ : ∃ V, (a.nrm []).2 = V := ⟨_, rfl⟩
  rw [hVe] at hs hV hnd
  have hlen : V.length ≤ 256 := by
    have := rising_len (sorted V) 0 (sorted_lt hnd) (fun v hv => vars1_bound c3 ((hV v).1 ((sorted_mem _ _).1 hv))) (by omega)
    rw [sorted_length] at this
    omega
  have hix : ∀ v ∈ V, 0 ≤ ix V v ∧ ix V v ≤ 255 := fun v hv => by
    unfold ix
    have := List.idxOf_lt_length_of_mem hv
    omega
  have hvh : ∀ h ∈ a.heads, h < 0 → -1 - h ∈ V := fun h hh hn => (hV _).2 ((mem_vars' _ _).2 ⟨by rw [show -1 - (-1 - h) = h from by omega]; exact hh, by omega⟩)
  obtain ⟨s1, s2, s3⟩ := ren_shape (ix V) a c3 (fun h hh hn => hix _ (hvh h hh hn))
  have hinj : ∀ u v, u ∈ V → v ∈ V → ix V u = ix V v → u = v := fun u v hu hv e => by
    unfold ix at e
    have e' : V.idxOf u = V.idxOf v := by omega
    have h1 := List.getElem_idxOf (List.idxOf_lt_length_of_mem hu)
    have h2 := List.getElem_idxOf (List.idxOf_lt_length_of_mem hv)
    rw [← h1, ← h2]
    simp only [e']
  obtain ⟨r1, _⟩ := T.nrm_ren (ix V) (fun v => v ∈ V) hinj (fun v hv => (hix v hv).1) a c3 hvh [] (by simp)
  rw [← hs] at r1 s1 s2 s3
  refine ⟨?_, ?_, ⟨_, hs.symm⟩, ⟨fun i => vt (V.getD i.toNat 0), ?_⟩⟩
  · unfold T.check
    rw [if_neg (by omega), if_neg (by omega), s3]
    rfl
  · have := congrArg Prod.fst r1
    simpa using this
  · rw [hs, T.sub_sub]
    refine sub_self _ _ a (Nat.le_refl _) c3 fun g hg hn => ?_
    have hv := hvh g hg hn
    show (vt (ix V (-1 - g))).sub _ = _
    rw [vt_sub (hix _ hv).1]
    congr 1
    unfold ix
    rw [Int.toNat_natCast, List.getD_eq_getElem?_getD, List.getElem?_eq_getElem (List.idxOf_lt_length_of_mem hv), List.getElem_idxOf]
    rfl
theorem ext_isSome {p t : T} (hg : bad (T.subs 1 p) = false) : (p.ext t []).isSome = true ↔ ∃ θ : Int → T, p.sub θ = t := by
  cases h : p.ext t [] with
  | none => simp; exact fun θ => (ext_spec hg).2 h θ
  | some M => simp; exact ⟨_, ext_some hg h⟩
/-- Two terms are variants just if they have one Norm. -/
theorem variant_nrm {a b : T} (ha : a.check = 0) (hb : b.check = 0) : ((a.ext b []).isSome && (b.ext a []).isSome) = decide (T.cmp (a.nrm []).1 (b.nrm []).1 = 0) := by
  have ga := (check_ok ha).2.2
  have gb := (check_ok hb).2.2
  rw [Bool.eq_iff_iff, Bool.and_eq_true, decide_eq_true_iff, T.cmp_zero, ext_isSome ga, ext_isSome gb]
  constructor
  · rintro ⟨⟨θ, h1⟩, φ, h2⟩
    exact nrm_variant ga gb h1 h2
  · intro h
    obtain ⟨_, _, ⟨θ, a1⟩, φ, a2⟩ := nrm_facts ha
    obtain ⟨_, _, ⟨θ', b1⟩, φ', b2⟩ := nrm_facts hb
    rw [← h] at b1 b2
    exact ⟨⟨_, by rw [← T.sub_sub, a1]; exact b2⟩, _, by rw [← T.sub_sub, b1]; exact a2⟩

end Go.Proofs.Ytcbjnfdhghhgeaa
