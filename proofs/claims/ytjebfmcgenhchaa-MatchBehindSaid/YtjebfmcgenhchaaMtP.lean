/- Matching in plain words: what stands for each variable, and what that says. -/
import Derived.Test.YtjebfmcgenhchaaUsh
import Derived.Test.YtjebfmcgenhchaaSam0
namespace Go.Proofs.Ytjebfmcgenhchaa
set_option linter.unusedVariables false
set_option linter.unusedSimpArgs false
open Go.RowKit

mutual
def T.ext : T → T → Sb → Option Sb
  | .node h ps, t, M =>
    if h < 0 then (if bnd M (-1 - h) then (if sameB (ofS M (-1 - h)) t then some M else none) else some (M ++ [(-1 - h, t)]))
    else if h = t.head ∧ ps.length = t.args.length then T.exts ps t.args M else none
def T.exts : List T → List T → Sb → Option Sb
  | [], _, M => some M
  | _ :: _, [], M => some M
  | p :: ps, t :: ts, M => match T.ext p t M with | some M' => T.exts ps ts M' | none => none
end
theorem T.ext_eq (p t : T) (M : Sb) : p.ext t M = if p.head < 0 then (if bnd M (-1 - p.head) then (if sameB (ofS M (-1 - p.head)) t then some M else none) else some (M ++ [(-1 - p.head, t)])) else if p.head = t.head ∧ p.args.length = t.args.length then T.exts p.args t.args M else none := by
  cases p; rfl
theorem T.exts_cons (p t : T) (ps ts : List T) (M : Sb) : T.exts (p :: ps) (t :: ts) M = (p.ext t M).bind (T.exts ps ts) := by
  rw [T.exts]; cases p.ext t M <;> rfl
theorem T.exts_take : ∀ (ps ts : List T) (k : Nat) (p t : T) (M : Sb), ps[k]? = some p → ts[k]? = some t → T.exts (ps.take (k + 1)) (ts.take (k + 1)) M = (T.exts (ps.take k) (ts.take k) M).bind (fun M' => p.ext t M')
  | [], _, k, p, t, M, hp, _ => by simp at hp
  | _ :: _, [], k, p, t, M, _, ht => by simp at ht
  | q :: ps, u :: ts, 0, p, t, M, hp, ht => by
    simp at hp ht
    subst hp ht
    simp only [List.take_succ_cons, List.take_zero, T.exts_cons]
    show (q.ext u M).bind (T.exts [] []) = q.ext u M
    cases q.ext u M <;> rfl
  | q :: ps, u :: ts, k + 1, p, t, M, hp, ht => by
    simp only [List.take_succ_cons, T.exts_cons]
    cases q.ext u M with
    | none => rfl
    | some M' =>
      have := T.exts_take ps ts k p t M' (by simpa using hp) (by simpa using ht)
      simpa [Option.bind] using this
/-- Once nothing fits, nothing fits. -/
theorem T.exts_none : ∀ (ps ts : List T) (k : Nat) (M : Sb), T.exts (ps.take k) (ts.take k) M = none → T.exts ps ts M = none
  | [], _, k, M, h => by simp [T.exts] at h
  | p :: ps, [], k, M, h => by cases k <;> simp [T.exts] at h
  | p :: ps, t :: ts, 0, M, h => by simp [T.exts] at h
  | p :: ps, t :: ts, k + 1, M, h => by
    simp only [List.take_succ_cons, T.exts_cons] at h ⊢
    cases hq : p.ext t M with
    | none => rfl
    | some M' =>
      rw [hq] at h
      exact T.exts_none ps ts k M' h

/-- A substitution that has these terms for these variables. -/
def Agr (θ : Int → T) (M : Sb) : Prop := ∀ q ∈ M, θ q.1 = q.2
def KN (M : Sb) : Prop := (M.map Prod.fst).Nodup
theorem ofS_memN : ∀ {M : Sb}, KN M → ∀ {p : Int × T}, p ∈ M → ofS M p.1 = p.2
  | [], _, p, hp => by simp at hp
  | (x, t) :: M, h, p, hp => by
    simp only [KN, List.map_cons, List.nodup_cons] at h
    rw [ofS]
    rcases List.mem_cons.1 hp with rfl | hp
    · simp
    · have : x ≠ p.1 := fun e => h.1 (by rw [e]; exact List.mem_map.2 ⟨p, hp, rfl⟩)
      rw [if_neg this]
      exact ofS_memN h.2 hp
theorem mem_of_bndN {M : Sb} (h : KN M) {v : Int} (hb : bnd M v = true) : (v, ofS M v) ∈ M := by
  rw [bnd_mem] at hb
  obtain ⟨p, hp, rfl⟩ := List.mem_map.1 hb
  rw [ofS_memN h hp]
  exact hp
theorem agr_self {M : Sb} (h : KN M) : Agr (ofS M) M := fun q hq => ofS_memN h hq
theorem kn_snoc {M : Sb} {v : Int} {t : T} (h : KN M) (hb : bnd M v = false) : KN (M ++ [(v, t)]) := by
  unfold KN at h ⊢
  rw [List.map_append, List.nodup_append]
  refine ⟨h, by simp, fun a ha b hb' => ?_⟩
  simp at hb'
  subst hb'
  rintro rfl
  rw [bnd_mem.2 ha] at hb
  cases hb

/-- What a matcher gets from a term: parts of it. -/
def PartOf (u t : T) : Prop := u.size ≤ t.size ∧ (t.check = 0 → u.check = 0) ∧ ((Lit.int .i64 t.head).wf = true → True)
theorem part_arg {t s : T} {i : Nat} (hi : t.args[i]? = some s) (hc : t.check = 0) : s.check = 0 := by
  obtain ⟨h1, h2, h3⟩ := check_ok hc
  unfold T.check
  have e1 := T.size_lt_of_mem hi
  have e2 := T.size_eq t
  have hd : s.depth ≤ T.depths t.args := by
    have : ∀ (ts : List T), s ∈ ts → s.depth ≤ T.depths ts := by
      intro ts
      induction ts with
      | nil => simp
      | cons x ts ih =>
        intro h
        rw [T.depths]
        rcases List.mem_cons.1 h with rfl | h
        · omega
        · have := ih h; omega
    exact this _ (List.mem_of_getElem? hi)
  have hdt : t.depth = T.depths t.args + 1 := by cases t; rfl
  rw [if_neg (by omega), if_neg (by omega), good_arg h3 hi]
  rfl

structure ExtS (ps : List T) (ts : List T) (M M' : Sb) : Prop where
  kn : KN M'
  agr : ∀ θ, Agr θ M' ↔ Agr θ M ∧ ps.map (T.sub θ) = ts
  keys : ∀ v, bnd M' v = true ↔ bnd M v = true ∨ ∃ p ∈ ps, v ∈ vars1 p
  part : ∀ q ∈ M', q ∈ M ∨ ((∀ t ∈ ts, t.check = 0) → q.2.check = 0)

theorem agr_snoc {θ : Int → T} {M : Sb} {v : Int} {t : T} : Agr θ (M ++ [(v, t)]) ↔ Agr θ M ∧ θ v = t := by
  constructor
  · exact fun h => ⟨fun q hq => h q (by simp [hq]), h (v, t) (by simp)⟩
  · rintro ⟨h1, h2⟩ q hq
    rcases List.mem_append.1 hq with hq | hq
    · exact h1 q hq
    · obtain rfl := List.mem_singleton.1 hq
      exact h2
theorem vars1_leaf {t : T} (hg : bad (T.subs 1 t) = false) (hn : t.head < 0) (v : Int) : v ∈ vars1 t ↔ v = -1 - t.head := by
  rw [mem_vars', T.heads_eq, good_leaf hg hn]
  simp
  omega
theorem vars1_node {t : T} (hn : ¬ t.head < 0) (v : Int) : v ∈ vars1 t ↔ ∃ s ∈ t.args, v ∈ vars1 s := by
  rw [mem_vars', T.heads_eq]
  simp only [List.mem_cons, List.mem_flatten, List.mem_map]
  constructor
  · rintro ⟨h | ⟨_, ⟨s, hs, rfl⟩, h⟩, h0⟩
    · omega
    · exact ⟨s, hs, (mem_vars' _ _).2 ⟨h, h0⟩⟩
  · rintro ⟨s, hs, h⟩
    obtain ⟨h1, h2⟩ := (mem_vars' _ _).1 h
    exact ⟨.inr ⟨_, ⟨s, hs, rfl⟩, h1⟩, h2⟩

theorem exts_spec : ∀ (N : Nat) (ps : List T), T.sizes ps ≤ N → (∀ p ∈ ps, bad (T.subs 1 p) = false) → ∀ (ts : List T) (M : Sb), ps.length = ts.length → KN M →
    (∀ M', T.exts ps ts M = some M' → ExtS ps ts M M') ∧ (T.exts ps ts M = none → ∀ θ, Agr θ M → ps.map (T.sub θ) ≠ ts) := by
  intro N
  induction N with
  | zero =>
    intro ps hN hg ts M hl hk
    cases ps with
    | cons p ps => have := T.size_pos p; simp [T.sizes] at hN; omega
    | nil =>
      obtain rfl : ts = [] := List.eq_nil_of_length_eq_zero hl.symm
      refine ⟨fun M' h => ?_, fun h => by simp [T.exts] at h⟩
      simp [T.exts] at h
      subst h
      exact ⟨hk, by simp, by simp, fun q hq => .inl hq⟩
  | succ N ih =>
    intro ps hN hg ts M hl hk
    cases ps with
    | nil =>
      obtain rfl : ts = [] := List.eq_nil_of_length_eq_zero hl.symm
      refine ⟨fun M' h => ?_, fun h => by simp [T.exts] at h⟩
      simp [T.exts] at h
      subst h
      exact ⟨hk, by simp, by simp, fun q hq => .inl hq⟩
    | cons p ps =>
      cases ts with
      | nil => simp at hl
      | cons t ts =>
        have hps : T.sizes ps ≤ N := by have := T.size_pos p; simp [T.sizes] at hN; omega
        have hl' : ps.length = ts.length := by simpa using hl
        have hgp := hg p (by simp)
        have hgs : ∀ q ∈ ps, bad (T.subs 1 q) = false := fun q hq => hg q (by simp [hq])
        -- one term
        have one : (∀ M', p.ext t M = some M' → ExtS [p] [t] M M') ∧ (p.ext t M = none → ∀ θ, Agr θ M → p.sub θ ≠ t) := by
          rw [T.ext_eq]
          by_cases q : p.head < 0
          · rw [if_pos q]
            have hsub : ∀ θ, p.sub θ = θ (-1 - p.head) := fun θ => T.sub_neg q
            cases hb : bnd M (-1 - p.head)
            · simp only [Bool.false_eq_true, if_false]
              refine ⟨fun M' h => ?_, fun h => by cases h⟩
              cases h
              refine ⟨kn_snoc hk hb, fun θ => ?_, fun v => ?_, fun q' hq => ?_⟩
              · rw [agr_snoc]; simp [hsub]
              · rw [bnd_snoc, Bool.or_eq_true, decide_eq_true_iff]
                simp only [List.mem_singleton, exists_eq_left, vars1_leaf hgp q]
                constructor
                · rintro (h | h)
                  · exact .inl h
                  · exact .inr h.symm
                · rintro (h | h)
                  · exact .inl h
                  · exact .inr h.symm
              · rcases List.mem_append.1 hq with hq | hq
                · exact .inl hq
                · obtain rfl := List.mem_singleton.1 hq
                  exact .inr fun h => h t (by simp)
            · simp only [if_true]
              have hm := mem_of_bndN hk hb
              by_cases hs : sameB (ofS M (-1 - p.head)) t = true
              · rw [if_pos hs]
                have e := (sameB_iff _ _).1 hs
                refine ⟨fun M' h => ?_, fun h => by cases h⟩
                cases h
                refine ⟨hk, fun θ => ?_, fun v => ?_, fun q' hq => .inl hq⟩
                · simp only [List.map_cons, List.map_nil, hsub]
                  constructor
                  · intro h
                    exact ⟨h, by rw [h _ hm]; simp [e]⟩
                  · exact fun h => h.1
                · simp only [List.mem_singleton, exists_eq_left, vars1_leaf hgp q]
                  constructor
                  · exact .inl
                  · rintro (h | rfl)
                    · exact h
                    · exact hb
              · rw [if_neg hs]
                refine ⟨fun M' h => (by cases h), fun _ θ hθ e => ?_⟩
                rw [hsub, hθ _ hm] at e
                exact hs ((sameB_iff _ _).2 e)
          · rw [if_neg q]
            have hsub : ∀ θ, p.sub θ = .node p.head (p.args.map (T.sub θ)) := fun θ => T.sub_pos q
            have hiff : ∀ θ, p.sub θ = t ↔ p.head = t.head ∧ p.args.map (T.sub θ) = t.args := fun θ => by
              rw [hsub]
              constructor
              · rintro rfl; exact ⟨rfl, rfl⟩
              · rintro ⟨h1, h2⟩; rw [h1, h2]; exact T.eta t
            by_cases hc : p.head = t.head ∧ p.args.length = t.args.length
            · rw [if_pos hc]
              have hsz : T.sizes p.args ≤ N := by have := T.size_eq p; simp [T.sizes] at hN; omega
              obtain ⟨i1, i2⟩ := ih p.args hsz (fun s hs => by obtain ⟨i, hi⟩ := List.getElem?_of_mem hs; exact good_arg hgp hi) t.args M hc.2 hk
              refine ⟨fun M' h => ?_, fun h θ hθ e => i2 h θ hθ ((hiff θ).1 e).2⟩
              have hE := i1 M' h
              refine ⟨hE.kn, fun θ => ?_, fun v => ?_, fun q' hq => ?_⟩
              · rw [hE.agr]
                simp only [List.map_cons, List.map_nil, List.cons.injEq, and_true, hiff]
                simp [hc.1]
              · rw [hE.keys]
                simp only [List.mem_singleton, exists_eq_left, vars1_node q]
              · rcases hE.part q' hq with h1 | h1
                · exact .inl h1
                · refine .inr fun h => h1 fun s hs => ?_
                  obtain ⟨i, hi⟩ := List.getElem?_of_mem hs
                  exact part_arg hi (h t (by simp))
            · rw [if_neg hc]
              refine ⟨fun M' h => (by cases h), fun _ θ _ e => hc ?_⟩
              obtain ⟨h1, h2⟩ := (hiff θ).1 e
              exact ⟨h1, by have := congrArg List.length h2; simpa using this⟩
        rw [T.exts_cons]
        cases hq : p.ext t M with
        | none =>
          refine ⟨fun M' h => by simp [Option.bind] at h, fun _ θ hθ e => one.2 hq θ hθ ?_⟩
          simp at e
          exact e.1
        | some M1 =>
          have h1 := one.1 M1 hq
          obtain ⟨i1, i2⟩ := ih ps hps hgs ts M1 hl' h1.kn
          simp only [Option.bind]
          refine ⟨fun M' h => ?_, fun h θ hθ e => ?_⟩
          · have h2 := i1 M' h
            refine ⟨h2.kn, fun θ => ?_, fun v => ?_, fun q' hq' => ?_⟩
            · rw [h2.agr, h1.agr]
              simp [and_assoc]
            · rw [h2.keys, h1.keys]
              simp [or_assoc]
            · rcases h2.part q' hq' with h3 | h3
              · rcases h1.part q' h3 with h4 | h4
                · exact .inl h4
                · exact .inr fun h => h4 fun u hu => h u (by simp at hu; simp [hu])
              · exact .inr fun h => h3 fun u hu => h u (by simp [hu])
          · simp at e
            exact i2 h θ ((h1.agr θ).2 ⟨hθ, by simp [e.1]⟩) e.2

/-- The substitution out of a matcher: what changes, rising. -/
def sm (M : Sb) : Sb := ((sorted (M.map Prod.fst)).filter (fun v => decide ((ofS M v).head ≠ -1 - v))).map (fun v => (v, ofS M v))
theorem sm_mem {M : Sb} {p : Int × T} : p ∈ sm M ↔ bnd M p.1 = true ∧ p.2 = ofS M p.1 ∧ p.2.head ≠ -1 - p.1 := by
  simp only [sm, List.mem_map, List.mem_filter, sorted_mem, decide_eq_true_iff, bnd_mem]
  constructor
  · rintro ⟨v, ⟨h1, h2⟩, rfl⟩
    exact ⟨by simpa using h1, rfl, h2⟩
  · rintro ⟨h1, h2, h3⟩
    exact ⟨p.1, ⟨by simpa using h1, by rw [← h2]; exact h3⟩, by rw [← h2]⟩
theorem sm_rise {M : Sb} (h : KN M) : ((sm M).map Prod.fst).Pairwise (· < ·) := by
  rw [sm, List.map_map, show (Prod.fst ∘ fun v => (v, ofS M v)) = id from rfl, List.map_id]
  exact (sorted_lt h).filter _
theorem sm_bnd {M : Sb} {v : Int} : bnd (sm M) v = true ↔ bnd M v = true ∧ (ofS M v).head ≠ -1 - v := by
  rw [bnd_mem]
  simp only [List.mem_map]
  constructor
  · rintro ⟨p, hp, rfl⟩
    obtain ⟨h1, h2, h3⟩ := sm_mem.1 hp
    exact ⟨h1, by rw [← h2]; exact h3⟩
  · rintro ⟨h1, h2⟩
    exact ⟨(v, ofS M v), sm_mem.2 ⟨h1, rfl, h2⟩, rfl⟩
theorem ofS_sm {M : Sb} (h : KN M) (hg : ∀ q ∈ M, bad (T.subs 1 q.2) = false) (v : Int) (h0 : 0 ≤ v) : ofS (sm M) v = ofS M v := by
  cases hb : bnd (sm M) v
  · rw [ofS_unbound hb]
    cases hm : bnd M v
    · rw [ofS_unbound hm]
    · have hne : ¬ (ofS M v).head ≠ -1 - v := fun hne => by rw [sm_bnd.2 ⟨hm, hne⟩] at hb; cases hb
      have he : (ofS M v).head = -1 - v := by simpa using hne
      have := good_leaf (hg _ (mem_of_bndN h hm)) (by rw [he]; omega)
      rw [← T.eta (ofS M v), he, this]
      rfl
  · have hm := mem_of_bnd (sm_rise h) hb
    exact (sm_mem.1 hm).2.1

end Go.Proofs.Ytjebfmcgenhchaa
