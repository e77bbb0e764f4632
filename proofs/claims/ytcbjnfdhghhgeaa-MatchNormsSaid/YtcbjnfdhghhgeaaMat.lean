/- Mat: joined of MtP, Mt1, MtK, Mt2, Mt3, Mt4. -/
import Derived.Test.YtcbjnfdhghhgeaaUsh
import Derived.Test.YtcbjnfdhghhgeaaSam0
import Derived.Deep.RegionHeld3
import Derived.Deep.CutRange
import Derived.StillTailTactics
import Derived.Shelf.SlIterI.Nil
import Derived.Shelf.SortM.Plain
import Derived.Shelf.SortM.SortNone
import Derived.Deep.AppendLies
import Derived.Test.YtcbjnfdhghhgeaaQ1i
/- Matching in plain words: what stands for each variable, and what that says. -/
namespace Go.Proofs.Ytcbjnfdhghhgeaa
set_option linter.unusedVariables false
set_option linter.unusedSimpArgs false
open Go.RowKit

mutual
def T.ext : T → T → Sb → Option Sb
  | .node h ps, t, M =>
    if h < 0 then (if bnd M (-1 - h) then (if sameB (ofS M (-1 - h)) t then some M else none) else some (M ++ [(-1 - h, t)]))
    else if h = t.head ∧ ps.length = t.args.length then T.exts ps t.args M else none
def T.exts : List T → List T → Sb → Option Sb
  | [], _, M => some M
  | _ :: _, [], M => some M
  | p :: ps, t :: ts, M => match T.ext p t M with | some M' => T.exts ps ts M' | none => none
end
theorem T.ext_eq (p t : T) (M : Sb) : p.ext t M = if p.head < 0 then (if bnd M (-1 - p.head) then (if sameB (ofS M (-1 - p.head)) t then some M else none) else some (M ++ [(-1 - p.head, t)])) else if p.head = t.head ∧ p.args.length = t.args.length then T.exts p.args t.args M else none := by
  cases p; rfl
theorem T.exts_cons (p t : T) (ps ts : List T) (M : Sb) : T.exts (p :: ps) (t :: ts) M = (p.ext t M).bind (T.exts ps ts) := by
  rw [T.exts]; cases p.ext t M <;> rfl
theorem T.exts_take : ∀ (ps ts : List T) (k : Nat) (p t : T) (M : Sb), ps[k]? = some p → ts[k]? = some t → T.exts (ps.take (k + 1)) (ts.take (k + 1)) M = (T.exts (ps.take k) (ts.take k) M).bind (fun M' => p.ext t M')
  | [], _, k, p, t, M, hp, _ => by simp at hp
  | _ :: _, [], k, p, t, M, _, ht => by simp at ht
  | q :: ps, u :: ts, 0, p, t, M, hp, ht => by
    simp at hp ht
    subst hp ht
    simp only [List.take_succ_cons, List.take_zero, T.exts_cons]
    show (q.ext u M).bind (T.exts [] []) = q.ext u M
    cases q.ext u M <;> rfl
  | q :: ps, u :: ts, k + 1, p, t, M, hp, ht => by
    simp only [List.take_succ_cons, T.exts_cons]
    cases q.ext u M with
    | none => rfl
    | some M' =>
      have := T.exts_take ps ts k p t M' (by simpa using hp) (by simpa using ht)
      simpa [Option.bind] using this
/-- Once nothing fits, nothing fits. -/
theorem T.exts_none : ∀ (ps ts : List T) (k : Nat) (M : Sb), T.exts (ps.take k) (ts.take k) M = none → T.exts ps ts M = none
  | [], _, k, M, h => by simp [T.exts] at h
  | p :: ps, [], k, M, h => by cases k <;> simp [T.exts] at h
  | p :: ps, t :: ts, 0, M, h => by simp [T.exts] at h
  | p :: ps, t :: ts, k + 1, M, h => by
    simp only [List.take_succ_cons, T.exts_cons] at h ⊢
    cases hq : p.ext t M with
    | none => rfl
    | some M' =>
      rw [hq] at h
      exact T.exts_none ps ts k M' h

/-- A substitution that has these terms for these variables. -/
def Agr (θ : Int → T) (M : Sb) : Prop := ∀ q ∈ M, θ q.1 = q.2
def KN (M : Sb) : Prop := (M.map Prod.fst).Nodup
theorem ofS_memN : ∀ {M : Sb}, KN M → ∀ {p : Int × T}, p ∈ M → ofS M p.1 = p.2
  | [], _, p, hp => by simp at hp
  | (x, t) :: M, h, p, hp => by
    simp only [KN, List.map_cons, List.nodup_cons] at h
    rw [ofS]
    rcases List.mem_cons.1 hp with rfl | hp
    · simp
    · have : x ≠ p.1 := fun e => h.1 (by rw [e]; exact List.mem_map.2 ⟨p, hp, rfl⟩)
      rw [if_neg this]
      exact ofS_memN h.2 hp
theorem mem_of_bndN {M : Sb} (h : KN M) {v : Int} (hb : bnd M v = true) : (v, ofS M v) ∈ M := by
  rw [bnd_mem] at hb
  obtain ⟨p, hp, rfl⟩ := List.mem_map.1 hb
  rw [ofS_memN h hp]
  exact hp
theorem agr_self {M : Sb} (h : KN M) : Agr (ofS M) M := fun q hq => ofS_memN h hq
theorem kn_snoc {M : Sb} {v : Int} {t : T} (h : KN M) (hb : bnd M v = false) : KN (M ++ [(v, t)]) := by
  unfold KN at h ⊢
  rw [List.map_append, List.nodup_append]
  refine ⟨h, by simp, fun a ha b hb' => ?_⟩
  simp at hb'
  subst hb'
  rintro rfl
  rw [bnd_mem.2 ha] at hb
  cases hb

/-- What a matcher gets from a term: parts of it. -/
def PartOf (u t : T) : Prop := u.size ≤ t.size ∧ (t.check = 0 → u.check = 0) ∧ ((Lit.int .i64 t.head).wf = true → True)
theorem part_arg {t s : T} {i : Nat} (hi : t.args[i]? = some s) (hc : t.check = 0) : s.check = 0 := by
  obtain ⟨h1, h2, h3⟩ := check_ok hc
  unfold T.check
  have e1 := T.size_lt_of_mem hi
  have e2 := T.size_eq t
  have hd : s.depth ≤ T.depths t.args := by
    have : ∀ (ts : List T), s ∈ ts → s.depth ≤ T.depths ts := by
      intro ts
      induction ts with
      | nil => simp
      | cons x ts ih =>
        intro h
        rw [T.depths]
        rcases List.mem_cons.1 h with rfl | h
        · omega
        · have := ih h; omega
    exact this _ (List.mem_of_getElem? hi)
  have hdt : t.depth = T.depths t.args + 1 := by cases t; rfl
  rw [if_neg (by omega), if_neg (by omega), good_arg h3 hi]
  rfl

structure ExtS (ps : List T) (ts : List T) (M M' : Sb) : Prop where
  kn : KN M'
  agr : ∀ θ, Agr θ M' ↔ Agr θ M ∧ ps.map (T.sub θ) = ts
  keys : ∀ v, bnd M' v = true ↔ bnd M v = true ∨ ∃ p ∈ ps, v ∈ vars1 p
  part : ∀ q ∈ M', q ∈ M ∨ ((∀ t ∈ ts, t.check = 0) → q.2.check = 0)

theorem agr_snoc {θ : Int → T} {M : Sb} {v : Int} {t : T} : Agr θ (M ++ [(v, t)]) ↔ Agr θ M ∧ θ v = t := by
  constructor
  · exact fun h => ⟨fun q hq => h q (by simp [hq]), h (v, t) (by simp)⟩
  · rintro ⟨h1, h2⟩ q hq
    rcases List.mem_append.1 hq with hq | hq
    · exact h1 q hq
    · obtain rfl := List.mem_singleton.1 hq
      exact h2
theorem vars1_leaf {t : T} (hg : bad (T.subs 1 t) = false) (hn : t.head < 0) (v : Int) : v ∈ vars1 t ↔ v = -1 - t.head := by
  rw [mem_vars', T.heads_eq, good_leaf hg hn]
  simp
  omega
theorem vars1_node {t : T} (hn : ¬ t.head < 0) (v : Int) : v ∈ vars1 t ↔ ∃ s ∈ t.args, v ∈ vars1 s := by
  rw [mem_vars', T.heads_eq]
  simp only [List.mem_cons, List.mem_flatten, List.mem_map]
  constructor
  · rintro ⟨h | ⟨_, ⟨s, hs, rfl⟩, h⟩, h0⟩
    · omega
    · exact ⟨s, hs, (mem_vars' _ _).2 ⟨h, h0⟩⟩
  · rintro ⟨s, hs, h⟩
    obtain ⟨h1, h2⟩ := (mem_vars' _ _).1 h
    exact ⟨.inr ⟨_, ⟨s, hs, rfl⟩, h1⟩, h2⟩

theorem exts_spec : ∀ (N : Nat) (ps : List T), T.sizes ps ≤ N → (∀ p ∈ ps, bad (T.subs 1 p) = false) → ∀ (ts : List T) (M : Sb), ps.length = ts.length → KN M →
    (∀ M', T.exts ps ts M = some M' → ExtS ps ts M M') ∧ (T.exts ps ts M = none → ∀ θ, Agr θ M → ps.map (T.sub θ) ≠ ts) := by
  intro N
  induction N with
  | zero =>
    intro ps hN hg ts M hl hk
    cases ps with
    | cons p ps => have := T.size_pos p; simp [T.sizes] at hN; omega
    | nil =>
      obtain rfl : ts = [] := List.eq_nil_of_length_eq_zero hl.symm
      refine ⟨fun M' h => ?_, fun h => by simp [T.exts] at h⟩
      simp [T.exts] at h
      subst h
      exact ⟨hk, by simp, by simp, fun q hq => .inl hq⟩
  | succ N ih =>
    intro ps hN hg ts M hl hk
    cases ps with
    | nil =>
      obtain rfl : ts = [] := List.eq_nil_of_length_eq_zero hl.symm
      refine ⟨fun M' h => ?_, fun h => by simp [T.exts] at h⟩
      simp [T.exts] at h
      subst h
      exact ⟨hk, by simp, by simp, fun q hq => .inl hq⟩
    | cons p ps =>
      cases ts with
      | nil => simp at hl
      | cons t ts =>
        have hps : T.sizes ps ≤ N := by have := T.size_pos p; simp [T.sizes] at hN; omega
        have hl' : ps.length = ts.length := by simpa using hl
        have hgp := hg p (by simp)
        have hgs : ∀ q ∈ ps, bad (T.subs 1 q) = false := fun q hq => hg q (by simp [hq])
        -- one term
        have one : (∀ M', p.ext t M = some M' → ExtS [p] [t] M M') ∧ (p.ext t M = none → ∀ θ, Agr θ M → p.sub θ ≠ t) := by
          rw [T.ext_eq]
          by_cases q : p.head < 0
          · rw [if_pos q]
            have hsub : ∀ θ, p.sub θ = θ (-1 - p.head) := fun θ => T.sub_neg q
            cases hb : bnd M (-1 - p.head)
            · simp only [Bool.false_eq_true, if_false]
              refine ⟨fun M' h => ?_, fun h => by cases h⟩
              cases h
              refine ⟨kn_snoc hk hb, fun θ => ?_, fun v => ?_, fun q' hq => ?_⟩
              · rw [agr_snoc]; simp [hsub]
              · rw [bnd_snoc, Bool.or_eq_true, decide_eq_true_iff]
                simp only [List.mem_singleton, exists_eq_left, vars1_leaf hgp q]
                constructor
                · rintro (h | h)
                  · exact .inl h
                  · exact .inr h.symm
                · rintro (h | h)
                  · exact .inl h
                  · exact .inr h.symm
              · rcases List.mem_append.1 hq with hq | hq
                · exact .inl hq
                · obtain rfl := List.mem_singleton.1 hq
                  exact .inr fun h => h t (by simp)
            · simp only [if_true]
              have hm := mem_of_bndN hk hb
              by_cases hs : sameB (ofS M (-1 - p.head)) t = true
              · rw [if_pos hs]
                have e := (sameB_iff _ _).1 hs
                refine ⟨fun M' h => ?_, fun h => by cases h⟩
                cases h
                refine ⟨hk, fun θ => ?_, fun v => ?_, fun q' hq => .inl hq⟩
                · simp only [List.map_cons, List.map_nil, hsub]
                  constructor
                  · intro h
                    exact ⟨h, by rw [h _ hm]; simp [e]⟩
                  · exact fun h => h.1
                · simp only [List.mem_singleton, exists_eq_left, vars1_leaf hgp q]
                  constructor
                  · exact .inl
                  · rintro (h | rfl)
                    · exact h
                    · exact hb
              · rw [if_neg hs]
                refine ⟨fun M' h => (by cases h), fun _ θ hθ e => ?_⟩
                rw [hsub, hθ _ hm] at e
                exact hs ((sameB_iff _ _).2 e)
          · rw [if_neg q]
            have hsub : ∀ θ, p.sub θ = .node p.head (p.args.map (T.sub θ)) := fun θ => T.sub_pos q
            have hiff : ∀ θ, p.sub θ = t ↔ p.head = t.head ∧ p.args.map (T.sub θ) = t.args := fun θ => by
              rw [hsub]
              constructor
              · rintro rfl; exact ⟨rfl, rfl⟩
              · rintro ⟨h1, h2⟩; rw [h1, h2]; exact T.eta t
            by_cases hc : p.head = t.head ∧ p.args.length = t.args.length
            · rw [if_pos hc]
              have hsz : T.sizes p.args ≤ N := by have := T.size_eq p; simp [T.sizes] at hN; omega
              obtain ⟨i1, i2⟩ := ih p.args hsz (fun s hs => by obtain ⟨i, hi⟩ := List.getElem?_of_mem hs; exact good_arg hgp hi) t.args M hc.2 hk
              refine ⟨fun M' h => ?_, fun h θ hθ e => i2 h θ hθ ((hiff θ).1 e).2⟩
              have hE := i1 M' h
              refine ⟨hE.kn, fun θ => ?_, fun v => ?_, fun q' hq => ?_⟩
              · rw [hE.agr]
                simp only [List.map_cons, List.map_nil, List.cons.injEq, and_true, hiff]
                simp [hc.1]
              · rw [hE.keys]
                simp only [List.mem_singleton, exists_eq_left, vars1_node q]
              · rcases hE.part q' hq with h1 | h1
                · exact .inl h1
                · refine .inr fun h => h1 fun s hs => ?_
                  obtain ⟨i, hi⟩ := List.getElem?_of_mem hs
                  exact part_arg hi (h t (by simp))
            · rw [if_neg hc]
              refine ⟨fun M' h => (by cases h), fun _ θ _ e => hc ?_⟩
              obtain ⟨h1, h2⟩ := (hiff θ).1 e
              exact ⟨h1, by have := congrArg List.length h2; simpa using this⟩
        rw [T.exts_cons]
        cases hq : p.ext t M with
        | none =>
          refine ⟨fun M' h => by simp [Option.bind] at h, fun _ θ hθ e => one.2 hq θ hθ ?_⟩
          simp at e
          exact e.1
        | some M1 =>
          have h1 := one.1 M1 hq
          obtain ⟨i1, i2⟩ := ih ps hps hgs ts M1 hl' h1.kn
          simp only [Option.bind]
          refine ⟨fun M' h => ?_, fun h θ hθ e => ?_⟩
          · have h2 := i1 M' h
            refine ⟨h2.kn, fun θ => ?_, fun v => ?_, fun q' hq' => ?_⟩
            · rw [h2.agr, h1.agr]
              simp [and_assoc]
            · rw [h2.keys, h1.keys]
              simp [or_assoc]
            · rcases h2.part q' hq' with h3 | h3
              · rcases h1.part q' h3 with h4 | h4
                · exact .inl h4
                · exact .inr fun h => h4 fun u hu => h u (by simp at hu; simp [hu])
              · exact .inr fun h => h3 fun u hu => h u (by simp [hu])
          · simp at e
            exact i2 h θ ((h1.agr θ).2 ⟨hθ, by simp [e.1]⟩) e.2

/-- The substitution out of a matcher: what changes, rising. -/
def sm (M : Sb) : Sb := ((sorted (M.map Prod.fst)).filter (fun v => decide ((ofS M v).head ≠ -1 - v))).map (fun v => (v, ofS M v))
theorem sm_mem {M : Sb} {p : Int × T} : p ∈ sm M ↔ bnd M p.1 = true ∧ p.2 = ofS M p.1 ∧ p.2.head ≠ -1 - p.1 := by
  simp only [sm, List.mem_map, List.mem_filter, sorted_mem, decide_eq_true_iff, bnd_mem]
  constructor
  · rintro ⟨v, ⟨h1, h2⟩, rfl⟩
    exact ⟨by simpa using h1, rfl, h2⟩
  · rintro ⟨h1, h2, h3⟩
    exact ⟨p.1, ⟨by simpa using h1, by rw [← h2]; exact h3⟩, by rw [← h2]⟩
theorem sm_rise {M : Sb} (h : KN M) : ((sm M).map Prod.fst).Pairwise (· < ·) := by
  rw [sm, List.map_map, show (Prod.fst ∘ fun v => (v, ofS M v)) = id from rfl, List.map_id]
  exact (sorted_lt h).filter _
theorem sm_bnd {M : Sb} {v : Int} : bnd (sm M) v = true ↔ bnd M v = true ∧ (ofS M v).head ≠ -1 - v := by
  rw [bnd_mem]
  simp only [List.mem_map]
  constructor
  · rintro ⟨p, hp, rfl⟩
    obtain ⟨h1, h2, h3⟩ := sm_mem.1 hp
    exact ⟨h1, by rw [← h2]; exact h3⟩
  · rintro ⟨h1, h2⟩
    exact ⟨(v, ofS M v), sm_mem.2 ⟨h1, rfl, h2⟩, rfl⟩
theorem ofS_sm {M : Sb} (h : KN M) (hg : ∀ q ∈ M, bad (T.subs 1 q.2) = false) (v : Int) (h0 : 0 ≤ v) : ofS (sm M) v = ofS M v := by
  cases hb : bnd (sm M) v
  · rw [ofS_unbound hb]
    cases hm : bnd M v
    · rw [ofS_unbound hm]
    · have hne : ¬ (ofS M v).head ≠ -1 - v := fun hne => by rw [sm_bnd.2 ⟨hm, hne⟩] at hb; cases hb
      have he : (ofS M v).head = -1 - v := by simpa using hne
      have := good_leaf (hg _ (mem_of_bndN h hm)) (by rw [he]; omega)
      rw [← T.eta (ofS M v), he, this]
      rfl
  · have hm := mem_of_bnd (sm_rise h) hb
    exact (sm_mem.1 hm).2.1

end Go.Proofs.Ytcbjnfdhghhgeaa

/- Contracts of the matcher's methods bind and extend. -/
namespace Go.Proofs.Ytcbjnfdhghhgeaa
set_option linter.unusedVariables false
set_option linter.unusedSimpArgs false
open Go.RowKit Go.Maps

/-- What extending a matcher answers: all but the map stays as it was. -/
def ExtPost (n₀ B : Nat) (r : Option Sb) (w : World) (e : Ending) (w' : World) : Prop :=
  w.grownBy w' (some B) ∧ ((∃ M', r = some M' ∧ e = .returned (.bool true) ∧ TabR n₀ w' B M') ∨ (r = none ∧ e = .returned (.bool false)))
theorem grown_of_below {w w' : World} {row : Option Nat} (h : Below w.heap.size w w') : w.grownBy w' row := ⟨h.os, h.tape, h.output, h.size, fun k hk _ => h.block k hk⟩
theorem grown_trans {a b c : World} {row : Option Nat} (h : a.grownBy b row) (k : b.grownBy c row) : a.grownBy c row := ⟨k.os.trans h.os, k.tape.trans h.tape, k.output.trans h.output, Nat.le_trans h.size k.size, fun q hq hr => (k.block q (Nat.lt_of_lt_of_le hq h.size) hr).trans (h.block q hq hr)⟩
theorem grown_below {n B : Nat} {a b : World} (h : a.grownBy b (some B)) (hn : n ≤ B) (ha : n ≤ a.heap.size) : Below n a b := ⟨h.os, h.tape, h.output, h.size, fun q hq => h.block q (by omega) (by simp; omega)⟩
theorem grown_cell {B b o : Nat} {w w' : World} (h : w.grownBy w' (some B)) (hb : b < w.heap.size) (hne : b ≠ B) : w'.cell? ⟨b, o, none⟩ = w.cell? ⟨b, o, none⟩ := World.cell?_of_block (a := ⟨b, o, none⟩) (h.block b hb (by simpa using hne))
theorem tab_lt {n₀ B : Nat} {W : World} {M : Sb} (h : TabR n₀ W B M) : B < W.heap.size := by
  obtain ⟨D, h1, _⟩ := h
  exact h1.lt

set_option maxRecDepth 100000 in
set_option maxHeartbeats 1000000 in
theorem mbind_any (M : Sb) (hl : M.length ≤ 1000000000000) (hM : ∀ q ∈ M, q.2.size ≤ 1000000000000) (v : Int) (h1 : -9223372036854775808 ≤ v) (h2 : v ≤ 9223372036854775807) (t : T) (n₀ B : Nat) (a : Option Addr) (c : Nat) (w : World) (hn : n₀ ≤ B) (hT : TabR n₀ w B M) (htw : (Lit.int .i64 t.head).wf = true) (hA : IsArgs n₀ w t.args a c) :
    Calls Try.prog 93 #[.map (some B), .int .i64 v, tm t.head a t.args.length c] w (ExtPost n₀ B (if bnd M v then (if sameB (ofS M v) t then some M else none) else some (M ++ [(v, t)])) w) := by
  generalize hr : (if bnd M v then (if sameB (ofS M v) t then some M else none) else some (M ++ [(v, t)])) = r
  have HR := Lib.hid hr
  clear hr
  have hlt := tab_lt hT
  have hos := ofS_size (n := 1000000000000) (by omega) hM v
  have hkey := keyOf_int_mk (P := Try.prog) (k := 3) Try.underlying3 (WalkArith.wf_i64 ⟨h1, h2⟩)
  have HT := Lib.hid hT
  obtain ⟨D, hD, hno, hyes⟩ := hT
  cases hb : bnd M v
  · have hh := hno v hb
    have HB := Lib.hid hb
    have hD1 := hD.alloc (tmCells t.head a t.args.length c)
    have hD2 := hD1.alloc (tmCells 0 none 0 0)
    have HD := Lib.hid hD
    have HNO := Lib.hid hno
    have HY := Lib.hid hyes
    have HA := Lib.hid hA
    clear hno hyes hb hM hD hA
    go_enter Try.func93, Try.ntmps93
    go_wp2_with (first | (at_lookup; refine wpList_look_miss (by rfl) _ _ 81 (by rfl) 3 25 keyInt Try.underlying81 (zeroTerm _) B M.length D (by rfl) hD1 _ _ (by rfl) hkey hh ?_) | (at_mapUpdate; refine wpList_mapUpdate_own _ (by rfl) _ _ _ 81 (by rfl) 3 25 keyInt Try.underlying81 heldR B M.length D (by rfl) hD2 (by unfold maxLen; omega) _ _ (.int .i64 v) (by rfl) (by rfl) hkey (.held (tm t.head a t.args.length c)) [] (by rfl) ?_; intro w1 hown1 hgrow1) | go_in)
    go_ret
    have hg0 : w.grownBy w1 (some B) := grown_trans (grown_of_below (((Below.refl _ w).alloc (Nat.le_refl _) _).alloc (by simp) _)) hgrow1
    have hb0 := grown_below hg0 hn (by omega)
    refine ⟨hg0, .inl ⟨M ++ [(v, t)], by rw [← HR.out, HB.out]; rfl, rfl, ?_⟩⟩
    exact tab_step HB.out HD.out HNO.out HY.out hown1 htw (HA.out.below hb0) hb0
  · obtain ⟨hh, hw, a', c', hat, hA'⟩ := hyes v hb
    have HB := Lib.hid hb
    generalize ofS M v = x at *
    have hD1 := hD.alloc (tmCells t.head a t.args.length c)
    have hB2 : Below w.heap.size w ((w.alloc (tmCells t.head a t.args.length c)).alloc (tmCells x.head a' x.args.length c')) := ((Below.refl _ w).alloc (Nat.le_refl _) _).alloc (by simp) _
    have CC := Lib.hid (same_any x t hos n₀ a' c' a c ((w.alloc (tmCells t.head a t.args.length c)).alloc (tmCells x.head a' x.args.length c')) (by simp; omega) hw htw (hA'.below (hB2.mono (by omega))) (hA.below (hB2.mono (by omega))))
    have HB2 := Lib.hid hB2
    clear hno hyes hb hM hA hA' hB2 hw
    go_enter Try.func93, Try.ntmps93
    go_wp2_with (first | (at_lookup; refine wpList_look_hit (by rfl) _ _ 81 (by rfl) 3 25 keyInt Try.underlying81 (zeroTerm _) B M.length D (by rfl) hD1 _ _ (by rfl) hkey hh (tm x.head a' x.args.length c') hat ?_) | (go_at_call 42; refine CC.out.mono ?_; rintro e w3 ⟨rfl, hb3⟩) | go_in)
    go_ret
    have hbb : Below w.heap.size w w3 := HB2.out.trans (hb3.mono HB2.out.size)
    refine ⟨grown_of_below hbb, ?_⟩
    have hr := HR.out
    rw [HB.out, if_pos rfl] at hr
    cases hs : sameB x t
    · rw [hs] at hr
      exact .inr ⟨hr.symm, rfl⟩
    · rw [hs] at hr
      exact .inl ⟨M, hr.symm, rfl, HT.out.below (by omega) hbb⟩

mutual
theorem T.ext_len (p t : T) (M M' : Sb) (h : p.ext t M = some M') : M'.length ≤ M.length + p.size ∧ ∀ q ∈ M', q ∈ M ∨ q.2.size ≤ t.size := by
  match p with
  | .node hd ps =>
    rw [T.ext] at h
    split at h
    · split at h
      · split at h
        · cases h; exact ⟨by omega, fun q hq => .inl hq⟩
        · cases h
      · cases h
        refine ⟨by simp [T.size], fun q hq => ?_⟩
        rcases List.mem_append.1 hq with hq | hq
        · exact .inl hq
        · obtain rfl := List.mem_singleton.1 hq
          exact .inr (Nat.le_refl _)
    · split at h
      · obtain ⟨h1, h2⟩ := T.exts_len ps t.args M M' h
        refine ⟨by simp only [T.size]; omega, fun q hq => ?_⟩
        rcases h2 q hq with h3 | h3
        · exact .inl h3
        · exact .inr (by have := T.size_eq t; omega)
      · cases h
theorem T.exts_len (ps ts : List T) (M M' : Sb) (h : T.exts ps ts M = some M') : M'.length ≤ M.length + T.sizes ps ∧ ∀ q ∈ M', q ∈ M ∨ q.2.size ≤ T.sizes ts := by
  match ps, ts with
  | [], _ => rw [T.exts] at h; cases h; exact ⟨by omega, fun q hq => .inl hq⟩
  | _ :: _, [] => rw [T.exts] at h; cases h; exact ⟨by omega, fun q hq => .inl hq⟩
  | p :: ps, t :: ts =>
    rw [T.exts] at h
    split at h
    · rename_i M1 h1
      obtain ⟨a1, a2⟩ := T.ext_len p t M M1 h1
      obtain ⟨b1, b2⟩ := T.exts_len ps ts M1 M' h
      refine ⟨by simp only [T.sizes]; omega, fun q hq => ?_⟩
      rcases b2 q hq with h3 | h3
      · rcases a2 q h3 with h4 | h4
        · exact .inl h4
        · exact .inr (by simp only [T.sizes]; omega)
      · exact .inr (by simp only [T.sizes]; omega)
    · cases h
end
theorem sizes_take_lt {ps : List T} {k : Nat} {p : T} (h : ps[k]? = some p) : T.sizes (ps.take k) + p.size ≤ T.sizes ps := by
  have h3 := T.sizes_append (ps.take k) (ps.drop k)
  rw [List.take_append_drop] at h3
  obtain ⟨hk, e⟩ := List.getElem?_eq_some_iff.1 h
  have h4 : ps.drop k = p :: ps.drop (k + 1) := by rw [List.drop_eq_getElem_cons hk, e]
  rw [h4, T.sizes] at h3
  omega

def ExI (n₀ B : Nat) (ps ts : List T) (M : Sb) (wL : World) (i : Value) (wr : World) : Prop :=
  ∃ (k : Nat) (M1 : Sb), k ≤ ps.length ∧ i = .int .i64 k ∧ T.exts (ps.take k) (ts.take k) M = some M1 ∧ TabR n₀ wr B M1 ∧ wL.grownBy wr (some B)

set_option maxRecDepth 100000 in
set_option maxHeartbeats 4000000 in
theorem extend_any : ∀ (N : Nat) (p : T), p.size ≤ N → p.size ≤ 1000000000000 → ∀ (t : T), t.size ≤ 1000000000000 → ∀ (M : Sb), M.length + p.size ≤ 1000000000000 → (∀ q ∈ M, q.2.size ≤ 1000000000000) → ∀ (n₀ B : Nat) (a : Option Addr) (c : Nat) (a' : Option Addr) (c' : Nat) (w : World), n₀ ≤ B → TabR n₀ w B M → (Lit.int .i64 p.head).wf = true → (Lit.int .i64 t.head).wf = true → IsArgs n₀ w p.args a c → IsArgs n₀ w t.args a' c' →
    Calls Try.prog 62 #[.map (some B), tm p.head a p.args.length c, tm t.head a' t.args.length c'] w (ExtPost n₀ B (p.ext t M) w) := by
  intro N
  induction N with
  | zero => intro p hp; have := T.size_pos p; omega
  | succ N ih =>
    intro p hp hbig t htb M hML hMS n₀ B a c a' c' w hn hT hpw htw hA hA'
    have IH := Lib.hid ih
    clear ih
    have hlt := tab_lt hT
    have hw := wf_low hpw
    generalize hr : p.ext t M = r
    rw [T.ext_eq] at hr
    have HR := Lib.hid hr
    clear hr
    have hlc : p.args.length ≤ c ∧ c ≤ maxLen := ⟨hA.1, hA.2.1⟩
    have hlc' : t.args.length ≤ c' ∧ c' ≤ maxLen := ⟨hA'.1, hA'.2.1⟩
    unfold maxLen at hlc hlc'
    obtain ⟨hl1, hl2⟩ := hlc
    obtain ⟨hl3, hl4⟩ := hlc'
    have hB2 : Below w.heap.size w ((w.alloc (tmCells p.head a p.args.length c)).alloc (tmCells t.head a' t.args.length c')) := ((Below.refl _ w).alloc (Nat.le_refl _) _).alloc (by simp) _
    have HT2 := Lib.hid (hT.below (by omega) hB2)
    have HA := Lib.hid (hA.below (hB2.mono (by omega)))
    have HA' := Lib.hid (hA'.below (hB2.mono (by omega)))
    have HB2 := Lib.hid hB2
    have HTW := Lib.hid htw
    have HMS := Lib.hid hMS
    clear hT hA hA' hB2 hpw htw hMS
    by_cases hneg : p.head < 0
    · have CB := Lib.hid (mbind_any M (by omega) HMS.out (-1 - p.head) (by omega) (by omega) t n₀ B a' c' _ hn HT2.out HTW.out HA'.out)
      go_enter Try.func62, Try.ntmps62
      go_wp2_with fail
      refine CB.out.mono ?_
      rintro e w3 ⟨hg3, h3⟩
      have hr := HR.out
      rw [if_pos hneg] at hr
      rw [hr] at h3
      have HG := Lib.hid (grown_trans (grown_of_below HB2.out) hg3)
      clear hg3 hr CB HR
      rcases h3 with ⟨M', rfl, rfl, hT'⟩ | ⟨rfl, rfl⟩
      · have HT' := Lib.hid hT'
        clear hT'
        go_wp2
        go_ret
        exact ⟨HG.out, .inl ⟨M', rfl, rfl, HT'.out⟩⟩
      · go_wp2
        go_ret
        exact ⟨HG.out, .inr ⟨rfl, rfl⟩⟩
    · have hr := HR.out
      rw [if_neg hneg] at hr
      have HR2 := Lib.hid hr
      clear hr HR
      by_cases hh : p.head = t.head
      case neg =>
        have hne : (p.head == t.head) = false := by simpa using hh
        have hr : r = none := by rw [← HR2.out, if_neg (fun h => hh h.1)]
        subst hr
        go_enter Try.func62, Try.ntmps62
        go_wp2
        go_ret
        exact ⟨grown_of_below HB2.out, .inr ⟨rfl, rfl⟩⟩
      have HH := Lib.hid hh
      rw [hh] at HB2 HT2 HA HA' hneg ⊢
      clear hh
      by_cases hl : p.args.length = t.args.length
      case neg =>
        have hne : ((p.args.length : Int) == (t.args.length : Int)) = false := by rw [beq_eq_false_iff_ne]; intro e; exact hl (by omega)
        have hr : r = none := by rw [← HR2.out, if_neg (fun h => hl h.2)]
        subst hr
        clear hl
        go_enter Try.func62, Try.ntmps62
        go_wp2
        go_ret
        exact ⟨grown_of_below HB2.out, .inr ⟨rfl, rfl⟩⟩
      have hr : T.exts p.args t.args M = r := by rw [← HR2.out, if_pos ⟨HH.out, hl⟩]
      have HR3 := Lib.hid hr
      have HL := Lib.hid hl
      rw [hl] at HB2 HT2 HA HA' hl1 ⊢
      clear hr hl HR2
      go_enter Try.func62, Try.ntmps62
      go_wp2
      have hsz : ((w.alloc (.cells #[.int .i64 t.head, .slice a t.args.length c] 25)).alloc (.cells #[.int .i64 t.head, .slice a' t.args.length c'] 25)).heap.size = w.heap.size + 1 + 1 := by simp
      have ht1 : ((w.alloc (.cells #[.int .i64 t.head, .slice a t.args.length c] 25)).alloc (.cells #[.int .i64 t.head, .slice a' t.args.length c'] 25)).cell? ⟨w.heap.size + 1, 1, none⟩ = some (.slice a' t.args.length c') := by simp [go_sem]
      have HT1 := Lib.hid ht1
      clear ht1
      generalize (w.alloc (.cells #[.int .i64 t.head, .slice a t.args.length c] 25)).alloc (.cells #[.int .i64 t.head, .slice a' t.args.length c'] 25) = wL at HT2 HA HA' HB2 HT1 hsz ⊢
      go_loopw [7, 8, 35] (fun _ _ i wr => ExI n₀ B p.args t.args M wL i wr) (fun _ _ i _ => t.args.length - (intOf i).toNat)
      case atStart => exact ⟨0, M, Nat.zero_le _, rfl, by simp [T.exts], HT2.out, grown_of_below (Below.refl _ _)⟩
      case round =>
        obtain ⟨k, M1, hk, rfl, hM1, hT, hG⟩ := hrel
        have HM1 := Lib.hid hM1
        have HT := Lib.hid hT
        have HG := Lib.hid hG
        have hbz := hG.size
        clear hM1 hT hG
        by_cases hlt2 : k < t.args.length
        · have hk0 : (0 : Int) ≤ (k : Int) := Int.natCast_nonneg _
          have hk2 : (k : Int) < (t.args.length : Int) := by omega
          have hbel : Below n₀ wL wr := grown_below HG.out hn (by omega)
          obtain ⟨b, o, p1, a1, c1, rfl, hbn, hp1, hpw1, hc1, hc2, hA1⟩ := (HA.out.below hbel).elem (i := k) (by rw [HL.out]; exact hlt2)
          obtain ⟨b2, o2, t1, a2, c2, rfl, hbn2, ht1, htw1, hd1, hd2, hA2⟩ := (HA'.out.below hbel).elem (i := k) hlt2
          have HP1 := Lib.hid hp1
          have HT1' := Lib.hid ht1
          have hsz1 := sizes_take_lt hp1
          have hszt := sizes_take_lt ht1
          have hpe := T.size_eq p
          have hte := T.size_eq t
          have hln := T.exts_len _ _ _ _ HM1.out
          have hd0 : wr.cell? ⟨w.heap.size + 1, 1, none⟩ = some (.slice (some ⟨b2, o2, none⟩) t.args.length c') := (grown_cell HG.out (by omega) (by omega)).trans HT1.out
          have CALL := Lib.hid (show ∀ W, Below wr.heap.size wr W → Calls Try.prog 62 #[.map (some B), tm p1.head a1 p1.args.length c1, tm t1.head a2 t1.args.length c2] W (ExtPost n₀ B (p1.ext t1 M1) W) from fun W hW =>
            IH.out p1 (by omega) (by omega) t1 (by omega) M1 (by omega) (fun q hq => by
              rcases hln.2 q hq with h | h
              · exact HMS.out q h
              · have h3 := T.sizes_append (t.args.take k) (t.args.drop k)
                rw [List.take_append_drop] at h3
                omega) n₀ B a1 c1 a2 c2 W hn (HT.out.below (by omega) hW) hpw1 htw1 (hA1.below (hW.mono (by omega))) (hA2.below (hW.mono (by omega))))
          have hbw2 : b2 < wr.heap.size := by omega
          clear hp1 ht1 hsz1 hszt hpe hte hln hA1 hA2 hpw1 htw1 hbel
          go_wp2_with fail
          have hB1 : Below wr.heap.size wr (wr.alloc (.cells #[.int .i64 p1.head, .slice a1 p1.args.length c1] 25)) := (Below.refl _ _).alloc (Nat.le_refl _) _
          have HB1 := Lib.hid hB1
          have e0 := (hB1.cell (p := ⟨w.heap.size + 1, 1, none⟩) (by simp; omega)).trans hd0
          have e1 := (hB1.cell (p := ⟨b2, o2 + k * 2, none⟩) (by simp; omega)).trans hd1
          have e2 := (hB1.cell (p := ⟨b2, o2 + k * 2 + 1, none⟩) (by simp; omega)).trans hd2
          have v0 : (wr.alloc (.cells #[.int .i64 p1.head, .slice a1 p1.args.length c1] 25)).cell? ⟨wr.heap.size, 0, none⟩ = some (.int .i64 p1.head) := by simp [go_sem]
          have v1 : (wr.alloc (.cells #[.int .i64 p1.head, .slice a1 p1.args.length c1] 25)).cell? ⟨wr.heap.size, 1, none⟩ = some (.slice a1 p1.args.length c1) := by simp [go_sem]
          clear hB1 hd0 hd1 hd2 hc1 hc2
          generalize wr.alloc (.cells #[.int .i64 p1.head, .slice a1 p1.args.length c1] 25) = wv at HB1 e0 e1 e2 v0 v1 ⊢
          generalize wr.heap.size = bv at v0 v1 ⊢
          go_still_tail 7, (by kernel_rfl)
          change wpList _ _ _ _ _ wv.drew
          go_wp2_with fail
          refine (CALL.out wv.drew HB1.out.drew).mono ?_
          rintro e w3 ⟨hg3, h3⟩
          have HG3 := Lib.hid (grown_trans HG.out (grown_trans (grown_of_below HB1.out.drew) hg3))
          have hst := T.exts_take p.args t.args k p1 t1 M HP1.out HT1'.out
          rw [HM1.out] at hst
          have HST := Lib.hid hst
          clear hst hg3 CALL e0 e1 e2 v0 v1
          rcases h3 with ⟨M2, hM2, rfl, hT2⟩ | ⟨hM2, rfl⟩
          · have HM2 := Lib.hid hM2
            have HTT := Lib.hid hT2
            clear hM2 hT2
            go_wp2
            go_roundw
            case rel => exact ⟨k + 1, M2, by have := HL.out; omega, by go_num, HST.out.trans HM2.out, HTT.out, HG3.out⟩
            case measure => simp [intOf]; omega
          · have hr := T.exts_none p.args t.args (k + 1) M (HST.out.trans hM2)
            rw [HR3.out] at hr
            subst hr
            clear hM2 HR3
            go_wp2
            go_ret
            exact ⟨grown_trans (grown_of_below HB2.out) HG3.out, .inr ⟨rfl, rfl⟩⟩
        · obtain rfl : k = t.args.length := by have := HL.out; omega
          have hM1 := HM1.out
          rw [List.take_length, show p.args.take t.args.length = p.args from by rw [← HL.out, List.take_length], HR3.out] at hM1
          subst hM1
          clear HM1 HR3
          go_wp2
          go_ret
          exact ⟨grown_trans (grown_of_below HB2.out) HG.out, .inl ⟨M1, rfl, rfl, HT.out⟩⟩

end Go.Proofs.Ytcbjnfdhghhgeaa

/- slices.Sorted(maps.Keys(m)) of a matcher: its variables, rising. -/
namespace Go.Proofs
open Go.RowKit Go.Maps Go.Sort Go.Shelf
def Try.keysM_ren : Go.Shelf.Ren := ⟨fun | 7 => 95 | 10 => 118 | n => n, fun | 23 => 81 | 26 => 3 | 3 => 25 | 28 => 130 | 0 => 0 | 27 => 129 | 33 => 157 | 4 => 4 | n => n, fun | n => n⟩
theorem Try.keysM : Go.Proofs.SlLaysZI.n7 Try.prog Try.keysM_ren := {
  mixed := by kernel_rfl
  f7 := ⟨Try.f95.name, by decide, Try.func95.trans (congrArg some (by kernel_rfl))⟩
  f10 := ⟨Try.f118.name, by decide, Try.func118.trans (congrArg some (by kernel_rfl))⟩
  t0 := Try.underlying0
  a0 := Try.isAgg0
  z0 := Try.sizeOf0
  v0 := Try.zeroValue0
  t4 := Try.underlying4
  a4 := Try.isAgg4
  z4 := Try.sizeOf4
  v4 := Try.zeroValue4
  t23 := Try.underlying81
  a23 := Try.isAgg81
  z23 := Try.sizeOf81
  v23 := Try.zeroValue81
  t26 := Try.underlying3
  a26 := Try.isAgg3
  z26 := Try.sizeOf3
  v26 := Try.zeroValue3
  t27 := Try.underlying129
  a27 := Try.isAgg129
  z27 := Try.sizeOf129
  v27 := Try.zeroValue129
  t28 := Try.underlying130
  a28 := Try.isAgg130
  z28 := Try.sizeOf130
  v28 := Try.zeroValue130
  t33 := Try.underlying157
  a33 := Try.isAgg157
  z33 := Try.sizeOf157
  v33 := Try.zeroValue157 }
def Try.sortedM_ren : Go.Shelf.Ren := ⟨fun | 6 => 94 | 8 => 117 | 9 => 76 | 11 => 139 | 13 => 102 | 12 => 101 | 23 => 128 | 24 => 129 | 14 => 119 | 15 => 120 | 16 => 121 | 17 => 122 | 18 => 123 | 19 => 124 | 20 => 125 | 21 => 126 | 22 => 127 | 25 => 140 | 26 => 141 | 27 => 142 | 28 => 143 | 29 => 144 | 30 => 145 | 31 => 150 | n => n, fun | 26 => 3 | 28 => 130 | 24 => 46 | 0 => 0 | 3 => 3 | 37 => 141 | 48 => 167 | 50 => 169 | 4 => 4 | 40 => 160 | 39 => 159 | 45 => 134 | 5 => 5 | 9 => 9 | 51 => 178 | 55 => 182 | 57 => 187 | 58 => 188 | 33 => 157 | n => n, fun | n => n⟩
theorem Try.sortedM : Go.Proofs.SlLaysZI.n6 Try.prog Try.sortedM_ren := {
  mixed := by kernel_rfl
  f6 := ⟨Try.f94.name, by decide, Try.func94.trans (congrArg some (by kernel_rfl))⟩
  f8 := ⟨Try.f117.name, by decide, Try.func117.trans (congrArg some (by kernel_rfl))⟩
  f11 := ⟨Try.f139.name, by decide, Try.func139.trans (congrArg some (by kernel_rfl))⟩
  t0 := Try.underlying0
  a0 := Try.isAgg0
  z0 := Try.sizeOf0
  v0 := Try.zeroValue0
  t24 := Try.underlying46
  a24 := Try.isAgg46
  z24 := Try.sizeOf46
  v24 := Try.zeroValue46
  t26 := Try.underlying3
  a26 := Try.isAgg3
  z26 := Try.sizeOf3
  v26 := Try.zeroValue3
  t28 := Try.underlying130
  a28 := Try.isAgg130
  z28 := Try.sizeOf130
  v28 := Try.zeroValue130
  i26 := by kernel_rfl }
def Try.sortM_ren : Go.Shelf.Ren := ⟨fun | 5 => 76 | 8 => 102 | 7 => 101 | 19 => 128 | 20 => 129 | 10 => 119 | 11 => 120 | 12 => 121 | 13 => 122 | 14 => 123 | 15 => 124 | 16 => 125 | 17 => 126 | 18 => 127 | 30 => 140 | 31 => 141 | 32 => 142 | 33 => 143 | 34 => 144 | 35 => 145 | 40 => 150 | n => n, fun | 23 => 46 | 25 => 3 | 3 => 3 | 32 => 141 | 22 => 46 | 0 => 0 | 44 => 167 | 46 => 169 | 4 => 4 | 36 => 160 | 35 => 159 | 41 => 134 | 5 => 5 | 9 => 9 | 53 => 178 | 57 => 182 | 63 => 187 | 64 => 188 | n => n, fun | n => n⟩
theorem Try.sortM : Go.Proofs.SlLaysM.n5 Try.prog Try.sortM_ren := {
  mixed := by kernel_rfl
  f5 := ⟨Try.f76.name, by decide, Try.func76.trans (congrArg some (by kernel_rfl))⟩
  f7 := ⟨Try.f101.name, by decide, Try.func101.trans (congrArg some (by kernel_rfl))⟩
  f8 := Try.func102.trans (congrArg some (by kernel_rfl))
  f10 := ⟨Try.f119.name, by decide, Try.func119.trans (congrArg some (by kernel_rfl))⟩
  f11 := ⟨Try.f120.name, by decide, Try.func120.trans (congrArg some (by kernel_rfl))⟩
  f12 := ⟨Try.f121.name, by decide, Try.func121.trans (congrArg some (by kernel_rfl))⟩
  f13 := ⟨Try.f122.name, by decide, Try.func122.trans (congrArg some (by kernel_rfl))⟩
  f14 := ⟨Try.f123.name, by decide, Try.func123.trans (congrArg some (by kernel_rfl))⟩
  f15 := ⟨Try.f124.name, by decide, Try.func124.trans (congrArg some (by kernel_rfl))⟩
  f16 := ⟨Try.f125.name, by decide, Try.func125.trans (congrArg some (by kernel_rfl))⟩
  f17 := ⟨Try.f126.name, by decide, Try.func126.trans (congrArg some (by kernel_rfl))⟩
  f18 := ⟨Try.f127.name, by decide, Try.func127.trans (congrArg some (by kernel_rfl))⟩
  f19 := Try.func128.trans (congrArg some (by kernel_rfl))
  f20 := Try.func129.trans (congrArg some (by kernel_rfl))
  f30 := ⟨Try.f140.name, by decide, Try.func140.trans (congrArg some (by kernel_rfl))⟩
  f31 := Try.func141.trans (congrArg some (by kernel_rfl))
  f32 := Try.func142.trans (congrArg some (by kernel_rfl))
  f33 := ⟨Try.f143.name, by decide, Try.func143.trans (congrArg some (by kernel_rfl))⟩
  f34 := ⟨Try.f144.name, by decide, Try.func144.trans (congrArg some (by kernel_rfl))⟩
  f35 := ⟨Try.f145.name, by decide, Try.func145.trans (congrArg some (by kernel_rfl))⟩
  f40 := ⟨Try.f150.name, by decide, Try.func150.trans (congrArg some (by kernel_rfl))⟩
  t0 := Try.underlying0
  a0 := Try.isAgg0
  z0 := Try.sizeOf0
  v0 := Try.zeroValue0
  t3 := Try.underlying3
  a3 := Try.isAgg3
  z3 := Try.sizeOf3
  v3 := Try.zeroValue3
  t4 := Try.underlying4
  a4 := Try.isAgg4
  z4 := Try.sizeOf4
  v4 := Try.zeroValue4
  t5 := Try.underlying5
  a5 := Try.isAgg5
  z5 := Try.sizeOf5
  v5 := Try.zeroValue5
  t9 := Try.underlying9
  a9 := Try.isAgg9
  z9 := Try.sizeOf9
  v9 := Try.zeroValue9
  t22 := Try.underlying46
  a22 := Try.isAgg46
  z22 := Try.sizeOf46
  v22 := Try.zeroValue46
  t23 := Try.underlying46
  a23 := Try.isAgg46
  z23 := Try.sizeOf46
  v23 := Try.zeroValue46
  t25 := Try.underlying3
  a25 := Try.isAgg3
  z25 := Try.sizeOf3
  v25 := Try.zeroValue3
  t32 := Try.underlying141
  a32 := Try.isAgg141
  z32 := Try.sizeOf141
  v32 := Try.zeroValue141
  t35 := Try.underlying159
  a35 := Try.isAgg159
  z35 := Try.sizeOf159
  v35 := Try.zeroValue159
  t36 := Try.underlying160
  a36 := Try.isAgg160
  z36 := Try.sizeOf160
  v36 := Try.zeroValue160
  t41 := Try.underlying134
  a41 := Try.isAgg134
  z41 := Try.sizeOf134
  v41 := Try.zeroValue134
  t44 := Try.underlying167
  a44 := Try.isAgg167
  z44 := Try.sizeOf167
  v44 := Try.zeroValue167
  t46 := Try.underlying169
  a46 := Try.isAgg169
  z46 := Try.sizeOf169
  v46 := Try.zeroValue169
  t53 := Try.underlying178
  a53 := Try.isAgg178
  z53 := Try.sizeOf178
  v53 := Try.zeroValue178
  t57 := Try.underlying182
  a57 := Try.isAgg182
  z57 := Try.sizeOf182
  v57 := Try.zeroValue182
  t63 := Try.underlying187
  a63 := Try.isAgg187
  z63 := Try.sizeOf187
  v63 := Try.zeroValue187
  t64 := Try.underlying188
  a64 := Try.isAgg188
  z64 := Try.sizeOf188
  v64 := Try.zeroValue188 }
end Go.Proofs
namespace Go.Proofs.Ytcbjnfdhghhgeaa
set_option linter.unusedVariables false
set_option linter.unusedSimpArgs false
open Go.RowKit Go.Maps Go.Sort Go.Shelf

theorem sortsM (m : Nat) : AnyZI.SortsIn Try.prog Try.sortedM_ren Fence.wide m :=
  ⟨fun blk off cap ss W hH hblk hsz => callsIn_wide.2 (AnyM.slices_Sort_int Try.sortM blk off cap ss W hH hblk hsz),
   fun p cap W => callsIn_wide.2 (AnyM.slices_Sort_int_none Try.sortM p cap W)⟩

theorem keysM_any (mb : Option Nat) (W : World) : Calls Try.prog 95 #[.map mb] W fun e w' => e = .returned (.func (.func 118) #[] #[.pointer (some ⟨W.heap.size, 0, none⟩)]) ∧ w' = W.alloc (.cells #[.map mb] 81) :=
  (callsIn_wide (n := 5)).1 (AnyZI.keys_in Try.keysM Fence.wide 5 trivial rfl mb W)

set_option maxHeartbeats 1000000 in
theorem sortedM_any (b nn : Nat) (D0 : DataW Value) (w : World) (hown : w.ownsMap Try.prog 3 heldR b nn D0) (hnn : nn ≤ 1000000000000) :
    Calls Try.prog 94 #[.func (.func 118) #[] #[.pointer (some ⟨w.heap.size, 0, none⟩)]] (w.alloc (.cells #[.map (some b)] 81)) fun e w' => ∃ (v : Value) (ss : List Int), e = .returned v ∧ ss.Perm (intKeys D0) ∧
      w'.ownsRow (w.heap.size + 1) 3 1 v ss.length ((ss.mergeSort (fun x y => decide (x ≤ y))).map encZ) ∧ (v = .slice none 0 0 ↔ ss = []) ∧ Below (w.heap.size + 1) (w.alloc (.cells #[.map (some b)] 81)) w' := by
  have hsz := hown.size_le
  have hbl := hown.lt
  have hseq : SeqGives Fence.wide 2 Try.prog 118 #[.pointer (some ⟨w.heap.size, 0, none⟩)] encZ (fun ss => ss.Perm (intKeys D0)) (Maps.size D0) (w.alloc (.cells #[.map (some b)] 81)) :=
    AnyZI.keys_gives (ρ := Try.keysM_ren) { Try.keysM with } Fence.wide _ trivial rfl (by omega) w.heap.size b nn D0 _ (by simp) (by simp) (by
      obtain ⟨es, clock, hb, Ft, hs, hD⟩ := hown
      exact ⟨es, clock, (Below.heap_alloc _ _ b hbl).trans hb, Ft, hs, hD⟩)
  have cS := AnyZI.sorted_in Try.sortedM Fence.wide 5 trivial trivial trivial trivial rfl (by omega) (sortsM _) (enters_of Try.func76 (by kernel_rfl) rfl) 118 #[.pointer (some ⟨w.heap.size, 0, none⟩)] trivial (enters_of Try.func118 (by kernel_rfl) rfl) _ _ (by unfold maxLen; omega) (by omega) _ hseq
  change CallsIn _ _ Try.prog 94 _ _ _ at cS
  refine ((callsIn_wide (n := 5)).1 cS).mono ?_
  rintro e w' ⟨v, ss, h1, h2, h3, h4, h5⟩
  rw [heap_alloc_size] at h3 h5
  exact ⟨v, ss, h1, h2, h3, h4, h5⟩

end Go.Proofs.Ytcbjnfdhghhgeaa

/- Contract of the matcher's method substitution. -/
namespace Go.Proofs.Ytcbjnfdhghhgeaa
set_option linter.unusedVariables false
set_option linter.unusedSimpArgs false
open Go.RowKit Go.Maps

section
variable {P : Program} {w : World} {ops : Array Oper} {rest : List Oper} {o : Oper} {a : Act} {Q : Exit → Act → World → Prop}
theorem wpList_look1 (hg : o.guard = none) (m x : Operand) (t : TypeId) (hop : o.op = Op.lookup t m x false)
    (k e : TypeId) (K : Keyed P k) (ht : P.underlying t = some (.map k e)) {z : Value} (hz : (zeroValue e).run P w = .ok z w) (b n : Nat) (D : DataW Value)
    (hm : a.eval m = .map (some b)) (hown : w.ownsMap P k heldR b n D) (key : Value) (kl : Lit) (hx : a.eval x = key) (hkey : keyOf P k key = some kl) (u : Value) (hat : ∀ z, D.atKey kl z = .held u)
    (hK : wpList P ops Q rest (a.put o.dst u) w) : wpList P ops Q (o :: rest) a w := by
  refine wpList_plain hg fun K' hK' => ?_
  obtain ⟨v, ps, hrun, hv⟩ := hown.lookup K ht hz (zd := .held z) (zp := []) rfl hkey
  rw [hat] at hv
  simp only [heldR, Option.some.injEq, Prod.mk.injEq, DataW.held.injEq] at hv
  obtain ⟨rfl, _⟩ := hv
  unfold Oper.wp
  simp [execOp, hop, hm, hx, hrun, Result.andThen]
  exact hK' _ _ hK
end
theorem thenT_nil {M : Sb} (hg : ∀ q ∈ M, bad (T.subs 1 q.2) = false) (hk : KN M) {v : Int} (hb : bnd M v = true) : thenT M [] v = ofS M v := by
  unfold thenT
  exact sub_vt (hg _ (mem_of_bndN hk hb))
theorem thenL_eq (s u : Sb) (vs : List Int) : thenL s u vs = (vs.filter (fun v => decide ((thenT s u v).head ≠ -1 - v))).map (fun v => (v, thenT s u v)) := by
  induction vs with
  | nil => rfl
  | cons v vs ih =>
    rw [thenL, ih, List.filter_cons]
    by_cases q : (thenT s u v).head = -1 - v
    · simp [q]
    · simp [q]
theorem sm_then {M : Sb} (hg : ∀ q ∈ M, bad (T.subs 1 q.2) = false) (hk : KN M) : thenL M [] (sorted (M.map Prod.fst)) = sm M := by
  rw [thenL_eq, sm]
  have e : ∀ v ∈ sorted (M.map Prod.fst), thenT M [] v = ofS M v := fun v hv => thenT_nil hg hk (bnd_mem.2 ((sorted_mem _ _).1 hv))
  rw [List.filter_congr (fun v hv => by rw [e v hv])]
  apply List.map_congr_left
  intro v hv
  rw [e v (List.mem_filter.1 hv).1]
def SmPost (s : Sb) (w : World) (e : Ending) (w' : World) : Prop := ∃ a c, e = .returned (.slice a s.length c) ∧ IsBs w'.heap.size w' s a c ∧ Below w.heap.size w w'

set_option maxRecDepth 100000 in
set_option maxHeartbeats 4000000 in
theorem msubst_any (M : Sb) (hl : M.length ≤ 100000) (hk : KN M) (hc : ∀ q ∈ M, q.2.check = 0) (hb : ∀ q ∈ M, 0 ≤ q.1 ∧ q.1 ≤ 255) (n₀ B : Nat) (w : World) (hn : n₀ ≤ w.heap.size) (hT : TabR n₀ w B M) :
    Calls Try.prog 63 #[.map (some B)] w (SmPost (sm M) w) := by
  have hg : ∀ q ∈ M, bad (T.subs 1 q.2) = false := fun q hq => (check_ok (hc q hq)).2.2
  have HG := Lib.hid hg
  have HK := Lib.hid hk
  have HC := Lib.hid hc
  have HBD := Lib.hid hb
  have HT := Lib.hid hT
  obtain ⟨D, hD, hno, hyes⟩ := hT
  have hperm : (M.map Prod.fst).Perm (intKeys D) := CollectedI.perm (left := fun _ => false) (ss := M.map Prod.fst) ⟨hk, fun x => by
    rw [← bnd_mem]
    constructor
    · intro h; exact ⟨(hyes x h).1, rfl⟩
    · rintro ⟨h, _⟩
      cases hbx : bnd M x
      · rw [hno x hbx] at h; cases h
      · rfl⟩ hD keyInt Try.underlying3 (fun _ => rfl)
  have HP := Lib.hid hperm
  have HD := Lib.hid hD
  clear hg hk hc hb hno hyes hperm
  obtain ⟨i0, hi, hz0, hz1, hz2⟩ := info_parts infoBind
  go_enter Try.func63, Try.ntmps63
  go_wp2_with fail
  refine (keysM_any _ w).mono ?_
  rintro e w1 ⟨rfl, rfl⟩
  go_wp2_with fail
  refine (sortedM_any B M.length D w HD.out (by omega)).mono ?_
  rintro e wL ⟨v, ss, rfl, hss, hrow, _, hbL⟩
  obtain ⟨zs, hzs⟩ : ∃ zs, sorted (M.map Prod.fst) = zs := ⟨_, rfl⟩
  have hmz : ss.mergeSort (fun x y => decide (x ≤ y)) = zs := by
    rw [← hzs]
    exact mergeSort_of_perm_i (hss.trans HP.out.symm)
  have hzl : ss.length = zs.length := by rw [← hmz]; simp
  rw [hmz, hzl] at hrow
  obtain ⟨av, cv, rfl, hI, _⟩ := own_is hrow
  have hzml : zs.length = M.length := by rw [← hzs, sorted_length]; simp
  have HZML := Lib.hid hzml
  have HI := Lib.hid hI
  have HZS := Lib.hid hzs
  have HBL := Lib.hid (((Below.refl _ w).alloc (Nat.le_refl _) _).trans (hbL.mono (by omega)))
  have HTL := Lib.hid (HT.out.below hn HBL.out)
  have hnL : n₀ ≤ wL.heap.size := Nat.le_trans hn HBL.out.size
  have hlz : zs.length ≤ cv ∧ cv ≤ maxLen := ⟨hI.1, hI.2.1⟩
  unfold maxLen at hlz
  obtain ⟨hlz1, hlz2⟩ := hlz
  clear hss hrow hmz hzl hI hzs hbL hzml
  go_wp2
  go_loopw [3, 5, 6, 11] (fun v _ _ i wr => ThI M [] zs wL v i wr) (fun _ _ _ i _ => zs.length - (intOf i).toNat)
  case atStart => exact ⟨0, _, [], Nat.zero_le _, rfl, rfl, rfl, Nat.le_refl _, World.ownsRow_nil _ _ _ _, trivial, Below.refl _ _⟩
  case round =>
    obtain ⟨k, vv, xs, hk, rfl, rfl, hE, hLL, hrow, hbv, hB⟩ := hrel
    have HE := Lib.hid hE
    have HROW := Lib.hid hrow
    have HBV := Lib.hid hbv
    have HB := Lib.hid hB
    have hbz := hB.size
    clear hE hrow hbv hB
    by_cases hlt : k < zs.length
    · obtain ⟨b, o, z, rfl, hbn, hz, hcz⟩ := (HI.out.below HB.out).elem (k := k) hlt
      have hzm : bnd M z = true := bnd_mem.2 ((sorted_mem _ _).1 (by rw [HZS.out]; exact List.mem_of_getElem? hz))
      have hmem := mem_of_bndN HK.out hzm
      obtain ⟨hzb0, hzb1⟩ := HBD.out _ hmem
      simp only [] at hzb0 hzb1
      have hck := HC.out _ hmem
      have htt := thenT_nil HG.out HK.out hzm
      obtain ⟨D1, hD1, _, hyes⟩ := HTL.out.below hnL HB.out
      obtain ⟨_, hxw, ax, cx, hat, hxA⟩ := hyes z hzm
      have hkey := keyOf_int_mk (P := Try.prog) (k := 3) Try.underlying3 (WalkArith.wf_i64 (n := z) ⟨by omega, by omega⟩)
      have hk0 : (0 : Int) ≤ (k : Int) := Int.natCast_nonneg _
      have hk1 : (k : Int) < (zs.length : Int) := by omega
      have HZ := Lib.hid hz
      have hbw : b < wr.heap.size := by omega
      obtain ⟨x, hx⟩ : ∃ x, ofS M z = x := ⟨_, rfl⟩
      simp only [] at hck
      rw [hx] at htt hxw hat hxA hck
      have HX := Lib.hid htt
      have HXW := Lib.hid hxw
      have HXA := Lib.hid hxA
      have HCK := Lib.hid hck
      clear hz hmem hzm htt hx hxw hxA hck hyes
      have hxs : x.size ≤ 1000000000000 := Nat.le_trans (check_ok HCK.out).1 (by omega)
      by_cases qv : x.head = -1 - z
      · have hqe : (x.head == -1 - z) = true := by simpa using qv
        have QV := Lib.hid qv
        clear qv
        have HD1 := Lib.hid hD1
        go_wp2_with (first | (at_lookup; refine wpList_look1 (by rfl) _ _ 81 (by rfl) 3 25 keyInt Try.underlying81 (zeroTerm _) B M.length D1 (by rfl) hD1 _ _ (by rfl) hkey (tm x.head ax x.args.length cx) hat ?_) | go_in)
        go_roundw
        case rel =>
          have hst : thenL M [] (zs.take (k + 1)) = thenL M [] (zs.take k) := by rw [thenL_step HZ.out, HX.out, if_pos QV.out, List.append_nil]
          have hB1 : ∀ ob, Below wr.heap.size wr (wr.alloc ob) := fun ob => (Below.refl _ _).alloc (Nat.le_refl _) _
          refine ⟨k + 1, _, xs, by omega, by go_num, rfl, thenE_step HE.out HZ.out (by rw [HX.out]; exact HCK.out), by rw [hst]; omega, by rw [hst]; exact ownsRow_later HROW.out (hB1 _), ?_, HB.out.alloc hbz _⟩
          rw [hst]
          exact HBV.out.keep (fun b hb => (hB1 _).block b hb.2.1) (fun b hb => ⟨hb.1, by have := hb.2.1; simp; omega, hb.2.2⟩)
        case measure => simp [intOf]; omega
      · have hqe : (x.head == -1 - z) = false := by simpa using qv
        have QV := Lib.hid qv
        clear qv
        have hB1 : Below wr.heap.size wr (wr.alloc (tmCells x.head ax x.args.length cx)) := (Below.refl _ _).alloc (Nat.le_refl _) _
        have CC := Lib.hid (copy_any x hxs n₀ ax cx (wr.alloc (tmCells x.head ax x.args.length cx)) (by simp; omega) HXW.out (HXA.out.below (hB1.mono (by omega))))
        have HB1 := Lib.hid hB1
        clear hB1
        have hkm : (thenL M [] (zs.take k)).length + 1 ≤ maxLen := by have := HZML.out; unfold maxLen; omega
        have hkm2 : zs.length ≤ 100000 := by have := HZML.out; omega
        go_wp2_with (first | (at_lookup; refine wpList_look1 (by rfl) _ _ 81 (by rfl) 3 25 keyInt Try.underlying81 (zeroTerm _) B M.length D1 (by rfl) hD1 _ _ (by rfl) hkey (tm x.head ax x.args.length cx) hat ?_) | (go_at_call 79; refine CC.out.mono ?_; rintro e w6 ⟨a4, c4, rfl, hI6, hb6⟩; have hB6 := HB1.out.trans (hb6.mono HB1.out.size); have hrow6 := ownsRow_later HROW.out hB6; have hz6 := hB6.size; have hbase : wL.heap.size ≤ w6.heap.size := Nat.le_trans hbz hz6) | (at_builtin; refine wpList_append_lies _ (by rfl) _ _ 22 (by rfl) wL.heap.size 43 i0 _ 3 40 Try.underlying22 hi hz0 hz1 hz2 rfl (by omega) _ _ xs (by rfl) (hrow6.alloc _) ⟨w6.heap.size, 0, none⟩ 1 1 [.int .i64 z, .int .i64 x.head, .slice a4 x.args.length c4] (by rfl) (by rfl) (World.news_of_block (cs := #[.int .i64 z, .int .i64 x.head, .slice a4 x.args.length c4]) (t := 43) (fr := (0, 0)) (heap_alloc_new w6 _)) (by simp [Value.oneCell']) (by omega) hkm (by omega) (by simp; omega) (w6.heap.size + 1) (by simp) ?_; intro g cap w8 hown8 hgrow8 hat8 hlt8) | go_in)
        go_roundw
        case rel =>
          have hB7 : Below wr.heap.size wr (w6.alloc (.cells #[.int .i64 z, .int .i64 x.head, .slice a4 x.args.length c4] 43)) := hB6.alloc hz6 _
          exact then_step (lo := wr.heap.size) HX.out HZ.out QV.out (WalkArith.wf_i64 ⟨by omega, by omega⟩) HXW.out HCK.out HE.out hLL HROW.out HBV.out HB.out hB7 (Nat.le_refl _) (hI6.keep (fun b hb => Below.heap_alloc _ _ _ hb.2.lt) (fun b hb => ⟨by have := hb.1; simp at this; omega, by have := hb.2.lt; simp; omega⟩)) hlt hown8 hgrow8 (by simpa using hat8)
        case measure => simp [intOf]; omega
    · obtain rfl : k = zs.length := by omega
      have hrow := HROW.out
      have hbv := HBV.out
      rw [List.take_length] at hrow hbv
      have hsm := sm_then HG.out HK.out
      rw [HZS.out] at hsm
      rw [hsm] at hrow hbv
      obtain ⟨ar, cr, hvv, hBs⟩ := isBs_of_owns (n := wr.heap.size) hrow hbv (fun b hb => hb.2.1) (fun g hg => by have := hrow.lt g hg; omega)
      subst hvv
      have HBS := Lib.hid hBs
      have HF := Lib.hid (HBL.out.trans (HB.out.mono HBL.out.size))
      clear hrow hbv hBs HROW HBV HE hsm
      go_wp2
      go_ret
      exact ⟨ar, cr, rfl, HBS.out, HF.out⟩

end Go.Proofs.Ytcbjnfdhghhgeaa

/- Contracts of match's notValid, All, Match, Variant. -/
namespace Go.Proofs.Ytcbjnfdhghhgeaa
set_option linter.unusedVariables false
set_option linter.unusedSimpArgs false
open Go.RowKit Go.Maps

theorem mNotValid_any (t : T) (ht : t.size ≤ 1000000000000) (n₀ : Nat) (a : Option Addr) (c : Nat) (w : World) (hn : n₀ ≤ w.heap.size) (hwf : (Lit.int .i64 t.head).wf = true) (hA : IsArgs n₀ w t.args a c) :
    Calls Try.prog 61 #[tm t.head a t.args.length c] w fun e w' => e = .returned (.bool (decide (t.check ≠ 0))) ∧ Below w.heap.size w w' := by
  have hb : Below w.heap.size w (w.alloc (tmCells t.head a t.args.length c)) := (Below.refl _ _).alloc (Nat.le_refl _) _
  have CC := Lib.hid (check_any t ht n₀ a c (w.alloc (tmCells t.head a t.args.length c)) (by simp; omega) hwf (hA.below (hb.mono hn)))
  have HB := Lib.hid hb
  clear hb hA
  go_enter Try.func61, Try.ntmps61
  go_wp2_with fail
  refine CC.out.mono ?_
  rintro e w2 ⟨rfl, hb2⟩
  have HB2 := Lib.hid (HB.out.trans (hb2.mono (by simp)))
  clear hb2
  cases hd : decide (t.check ≠ 0)
  · have hz : t.check = 0 := by simpa using hd
    have HZ := Lib.hid hz
    rw [hz]
    have HD := Lib.hid (show decide (t.check ≠ 0) = false from hd)
    clear hd hz
    go_wp2
    go_ret
    refine ⟨?_, HB2.out⟩
    first | (rw [HD.out]; rfl) | (simp [HZ.out])
  · have hz : (t.check == 0) = false := by simpa using hd
    obtain ⟨k, hk⟩ : ∃ k, t.check = k := ⟨_, rfl⟩
    rw [hk] at hz ⊢
    have HD := Lib.hid (show decide (t.check ≠ 0) = true from by rw [hk]; rw [hk] at hd; exact hd)
    clear hd hk
    go_wp2
    go_ret
    refine ⟨?_, HB2.out⟩
    have h2 : (k != 0) = true := by simp [bne, hz]
    have h3 : t.check ≠ 0 := of_decide_eq_true HD.out
    simp [h3, hz]
    try exact h2
    try simpa using h2

abbrev nvFnM : Value := .func (.func 61) #[] #[]

set_option maxRecDepth 100000 in
set_option maxHeartbeats 2000000 in
theorem mIndex_any (ts : List T) (hts : ∀ t ∈ ts, t.size ≤ 1000000000000) (n₀ : Nat) (a : Option Addr) (c : Nat) (w : World) (hn : n₀ ≤ w.heap.size) (hA : IsArgs n₀ w ts a c) :
    Calls Try.prog 92 #[.slice a ts.length c, nvFnM] w fun e w' => ∃ j : Int, e = .returned (.int .i64 j) ∧ decide (0 ≤ j) = badL ts ∧ Below w.heap.size w w' := by
  have hlc : ts.length ≤ c ∧ c ≤ maxLen := ⟨hA.1, hA.2.1⟩
  unfold maxLen at hlc
  obtain ⟨hl1, hl2⟩ := hlc
  have HA := Lib.hid hA
  have HT := Lib.hid hts
  clear hA hts
  go_enter Try.func92, Try.ntmps92
  go_wp2
  go_loopw [8] (fun i wr => IdxI ts w i wr) (fun i _ => ts.length - (intOf i).toNat)
  case atStart => exact ⟨0, Nat.zero_le _, rfl, by simp, Below.refl _ _⟩
  case round =>
    obtain ⟨k, hk, rfl, hbd, hB⟩ := hrel
    have HBD := Lib.hid hbd
    have HB := Lib.hid hB
    have hbz := hB.size
    clear hbd hB
    by_cases hlt : k < ts.length
    · obtain ⟨b, o, s, a', c', rfl, hbn, hs, hswf, hc1, hc2, hA'⟩ := (HA.out.below (HB.out.mono hn)).elem (i := k) hlt
      have hk0 : (0 : Int) ≤ (k : Int) := Int.natCast_nonneg _
      have hk1 : (k : Int) < (ts.length : Int) := by omega
      have hbw : b < wr.heap.size := by omega
      have CN := Lib.hid (mNotValid_any s (HT.out s (List.mem_of_getElem? hs)) n₀ a' c' wr (by omega) hswf hA')
      have hst : badL (ts.drop k) = (decide (s.check ≠ 0) || badL (ts.drop (k + 1))) := by
        obtain ⟨hkl, hke⟩ := List.getElem?_eq_some_iff.1 hs
        rw [List.drop_eq_getElem_cons hkl, hke]; rfl
      have HSTEP := Lib.hid hst
      clear hs hswf hA' hst
      go_wp2_with fail
      refine CN.out.mono ?_
      rintro e w2 ⟨rfl, hb2⟩
      have HB2 := Lib.hid (HB.out.trans (hb2.mono hbz))
      clear hb2
      cases hd : decide (s.check ≠ 0)
      · have H0 := Lib.hid (show badL (ts.drop k) = badL (ts.drop (k + 1)) from by rw [HSTEP.out, hd]; rfl)
        clear hd
        go_wp2
        go_roundw
        case rel => exact ⟨k + 1, by omega, by go_num, HBD.out.trans H0.out, HB2.out⟩
        case measure => simp [intOf]; omega
      · have H0 := Lib.hid (show badL ts = true from by rw [HBD.out, HSTEP.out, hd]; rfl)
        clear hd
        go_wp2
        go_ret
        exact ⟨(k : Int), rfl, by rw [H0.out]; simp, HB2.out⟩
    · obtain rfl : k = ts.length := by omega
      have H0 := Lib.hid (show badL ts = false from by rw [HBD.out, List.drop_of_length_le (Nat.le_refl _)]; rfl)
      go_wp2
      go_ret
      exact ⟨-1, rfl, by rw [H0.out]; rfl, HB.out⟩

theorem mContains_any (ts : List T) (hts : ∀ t ∈ ts, t.size ≤ 1000000000000) (n₀ : Nat) (a : Option Addr) (c : Nat) (w : World) (hn : n₀ ≤ w.heap.size) (hA : IsArgs n₀ w ts a c) :
    Calls Try.prog 60 #[.slice a ts.length c, nvFnM] w fun e w' => e = .returned (.bool (badL ts)) ∧ Below w.heap.size w w' := by
  have CI := Lib.hid (mIndex_any ts hts n₀ a c w hn hA)
  clear hA hts
  go_enter Try.func60, Try.ntmps60
  go_wp2_with fail
  refine CI.out.mono ?_
  rintro e w2 ⟨j, rfl, hj, hb⟩
  have HJ := Lib.hid hj
  have HB := Lib.hid hb
  clear hj hb
  go_wp2
  go_ret
  exact ⟨by rw [← HJ.out]; rfl, HB.out⟩

theorem run_makeMatcher (w : World) : (Instr.makeMap 81 none).run Try.prog w = .ok (.map (some w.heap.size)) (w.alloc (.map #[] 0)) := by
  simp [Instr.makeMap, run_underlying Try.underlying81, asInt, asIntOf, Result.andThen]

/-- What All answers, as a relation. -/
def MatR (ps ts : List T) (s : Sb) (b : Bool) (k : Int) : Prop :=
  ((ps.length ≠ ts.length ∨ badL ps = true ∨ badL ts = true) ∧ s = [] ∧ b = false ∧ k = 1) ∨
  ((ps.length = ts.length ∧ badL ps = false ∧ badL ts = false) ∧ ((T.exts ps ts [] = none ∧ s = [] ∧ b = false ∧ k = 0) ∨ ∃ M, T.exts ps ts [] = some M ∧ s = sm M ∧ b = true ∧ k = 0))
def MatPost (ps ts : List T) (w : World) (e : Ending) (w' : World) : Prop := ∃ (s : Sb) (b : Bool) (k : Int), MatR ps ts s b k ∧ SBPost s b k w e w'
theorem badL_false {ts : List T} (h : badL ts = false) : ∀ t ∈ ts, t.check = 0 := by
  intro t ht
  unfold badL at h
  rw [List.any_eq_false] at h
  simpa using h t ht
theorem tab_empty (n₀ : Nat) (w : World) : TabR n₀ (w.alloc (.map #[] 0)) w.heap.size [] :=
  ⟨.map [], World.ownsMap_made w Try.prog 3 heldR, fun v _ => rfl, fun v hv => by simp [bnd] at hv⟩
theorem exts_facts {ps ts : List T} (hl : ps.length = ts.length) (hp : badL ps = false) (ht : badL ts = false) {M : Sb} (h : T.exts ps ts [] = some M) : KN M ∧ (∀ q ∈ M, q.2.check = 0) ∧ (∀ q ∈ M, 0 ≤ q.1 ∧ q.1 ≤ 255) := by
  have hg : ∀ p ∈ ps, bad (T.subs 1 p) = false := fun p hp' => (check_ok (badL_false hp p hp')).2.2
  have hE := (exts_spec _ ps (Nat.le_refl _) hg ts [] hl (by simp [KN])).1 M h
  refine ⟨hE.kn, fun q hq => ?_, fun q hq => ?_⟩
  · rcases hE.part q hq with h1 | h1
    · simp at h1
    · exact h1 (badL_false ht)
  · have hb : bnd M q.1 = true := bnd_mem.2 (List.mem_map.2 ⟨q, hq, rfl⟩)
    rcases (hE.keys q.1).1 hb with h1 | ⟨p, hp', h1⟩
    · simp [bnd] at h1
    · exact vars1_bound (hg p hp') h1

def MaI (n₀ B : Nat) (ps ts : List T) (wL : World) (i : Value) (wr : World) : Prop :=
  ∃ (k : Nat) (M1 : Sb), k ≤ ps.length ∧ i = .int .i64 k ∧ T.exts (ps.take k) (ts.take k) [] = some M1 ∧ TabR n₀ wr B M1 ∧ wL.grownBy wr (some B)

set_option maxRecDepth 100000 in
set_option maxHeartbeats 4000000 in
theorem matAll_any (ps ts : List T) (hps : T.sizes ps ≤ 100000) (hts : T.sizes ts ≤ 100000) (n₀ : Nat) (a : Option Addr) (c : Nat) (a' : Option Addr) (c' : Nat) (w : World) (hn : n₀ ≤ w.heap.size) (hA : IsArgs n₀ w ps a c) (hA' : IsArgs n₀ w ts a' c') :
    Calls Try.prog 33 #[.slice a ps.length c, .slice a' ts.length c'] w (MatPost ps ts w) := by
  have hlc : ps.length ≤ c ∧ c ≤ maxLen := ⟨hA.1, hA.2.1⟩
  have hlc' : ts.length ≤ c' ∧ c' ≤ maxLen := ⟨hA'.1, hA'.2.1⟩
  unfold maxLen at hlc hlc'
  obtain ⟨hl1, hl2⟩ := hlc
  obtain ⟨hl3, hl4⟩ := hlc'
  have LS := Lib.hid (show ∀ W, Below w.heap.size w W → IsArgs n₀ W ps a c ∧ IsArgs n₀ W ts a' c' ∧ n₀ ≤ W.heap.size from fun W hW => ⟨hA.below (hW.mono hn), hA'.below (hW.mono hn), Nat.le_trans hn hW.size⟩)
  have HPS := Lib.hid (show ∀ t ∈ ps, t.size ≤ 1000000000000 from fun t ht => by obtain ⟨i, hi⟩ := List.getElem?_of_mem ht; have := sizes_take_lt hi; omega)
  have HTS := Lib.hid (show ∀ t ∈ ts, t.size ≤ 1000000000000 from fun t ht => by obtain ⟨i, hi⟩ := List.getElem?_of_mem ht; have := sizes_take_lt hi; omega)
  clear hA hA'
  by_cases hl : ps.length = ts.length
  case neg =>
    have hne : ((ps.length : Int) == (ts.length : Int)) = false := by rw [beq_eq_false_iff_ne]; intro e; exact hl (by omega)
    have hnb : ((ps.length : Int) != (ts.length : Int)) = true := by rw [bne, hne]; rfl
    have HL := Lib.hid hl
    clear hl
    go_enter Try.func33, Try.ntmps33
    go_wp2
    refine bodyPost_ret (v := .tuple #[.slice none 0 0, .bool false, .int .i64 1]) (by simp [results, Try.results33, go_sem]) rfl ?_
    exact ⟨[], false, 1, .inl ⟨.inl HL.out, rfl, rfl, rfl⟩, none, 0, rfl, IsBs.nil _ _ _ (by simp [maxLen]), Below.refl _ _⟩
  have HL := Lib.hid hl
  have CP : Calls Try.prog 60 #[.slice a ts.length c, nvFnM] w fun e w' => e = .returned (.bool (badL ps)) ∧ Below w.heap.size w w' := by
    have := mContains_any ps HPS.out n₀ a c w hn (LS.out w (Below.refl _ _)).1
    rw [hl] at this
    exact this
  have HCP := Lib.hid CP
  rw [hl] at hl1 ⊢
  clear hl CP
  have hmm := run_makeMatcher
  go_enter Try.func33, Try.ntmps33
  go_wp2_with fail
  refine HCP.out.mono ?_
  rintro e w1 ⟨rfl, hb⟩
  have HB1 := Lib.hid hb
  clear hb HCP
  cases q1 : badL ps
  case true =>
    have Q1 := Lib.hid q1
    clear q1
    go_wp2
    refine bodyPost_ret (v := .tuple #[.slice none 0 0, .bool false, .int .i64 1]) (by simp [results, Try.results33, go_sem]) rfl ?_
    exact ⟨[], false, 1, .inl ⟨.inr (.inl Q1.out), rfl, rfl, rfl⟩, none, 0, rfl, IsBs.nil _ _ _ (by simp [maxLen]), HB1.out⟩
  have Q1 := Lib.hid q1
  clear q1
  go_wp2_with fail
  have ls := LS.out w1 HB1.out
  refine (mContains_any ts HTS.out n₀ a' c' w1 ls.2.2 ls.2.1).mono ?_
  clear ls
  rintro e w2 ⟨rfl, hb⟩
  have HB2 := Lib.hid (HB1.out.trans (hb.mono HB1.out.size))
  clear hb HB1
  cases q2 : badL ts
  case true =>
    have Q2 := Lib.hid q2
    clear q2
    go_wp2
    refine bodyPost_ret (v := .tuple #[.slice none 0 0, .bool false, .int .i64 1]) (by simp [results, Try.results33, go_sem]) rfl ?_
    exact ⟨[], false, 1, .inl ⟨.inr (.inr Q2.out), rfl, rfl, rfl⟩, none, 0, rfl, IsBs.nil _ _ _ (by simp [maxLen]), HB2.out⟩
  have Q2 := Lib.hid q2
  clear q2
  have HB3 := Lib.hid (HB2.out.alloc HB2.out.size (.map #[] 0))
  have HTE := Lib.hid (tab_empty n₀ w2)
  have hnB : n₀ ≤ w2.heap.size := (LS.out w2 HB2.out).2.2
  have hwB : w.heap.size ≤ w2.heap.size := HB2.out.size
  go_wp2
  have hsz3 : (w2.alloc (.map #[] 0)).heap.size = w2.heap.size + 1 := by simp
  generalize w2.alloc (.map #[] 0) = wL at HB3 HTE hsz3 ⊢
  generalize hBB : w2.heap.size = B at HTE hnB hsz3 hwB ⊢
  clear hBB
  clear hmm
  go_loopw [8, 9, 26] (fun _ _ i wr => MaI n₀ B ps ts wL i wr) (fun _ _ i _ => ts.length - (intOf i).toNat)
  case atStart => exact ⟨0, [], Nat.zero_le _, rfl, by simp [T.exts], HTE.out, grown_of_below (Below.refl _ _)⟩
  case round =>
    obtain ⟨k, M1, hk, rfl, hM1, hT, hG⟩ := hrel
    have HM1 := Lib.hid hM1
    have HT := Lib.hid hT
    have HG := Lib.hid hG
    have hbz := hG.size
    clear hM1 hT hG
    by_cases hlt2 : k < ts.length
    · have hk0 : (0 : Int) ≤ (k : Int) := Int.natCast_nonneg _
      have hk2 : (k : Int) < (ts.length : Int) := by omega
      have hbel : Below n₀ wL wr := grown_below HG.out hnB (by omega)
      obtain ⟨b, o, p1, a1, c1, rfl, hbn, hp1, hpw1, hc1, hc2, hA1⟩ := ((LS.out wL HB3.out).1.below hbel).elem (i := k) (by rw [HL.out]; exact hlt2)
      obtain ⟨b2, o2, t1, a2, c2, rfl, hbn2, ht1, htw1, hd1, hd2, hA2⟩ := ((LS.out wL HB3.out).2.1.below hbel).elem (i := k) hlt2
      have HP1 := Lib.hid hp1
      have HT1' := Lib.hid ht1
      have hsz1 := sizes_take_lt hp1
      have hszt := sizes_take_lt ht1
      have hln := T.exts_len _ _ _ _ HM1.out
      simp only [List.length_nil] at hln
      have CALL := Lib.hid (show ∀ W, Below wr.heap.size wr W → Calls Try.prog 62 #[.map (some B), tm p1.head a1 p1.args.length c1, tm t1.head a2 t1.args.length c2] W (ExtPost n₀ B (p1.ext t1 M1) W) from fun W hW =>
        extend_any p1.size p1 (Nat.le_refl _) (by omega) t1 (by omega) M1 (by omega) (fun q hq => by
          rcases hln.2 q hq with h | h
          · simp at h
          · have h3 := T.sizes_append (ts.take k) (ts.drop k)
            rw [List.take_append_drop] at h3
            omega) n₀ B a1 c1 a2 c2 W hnB (HT.out.below (by omega) hW) hpw1 htw1 (hA1.below (hW.mono (by omega))) (hA2.below (hW.mono (by omega))))
      have hbw2 : b2 < wr.heap.size := by omega
      have hbw : b < wr.heap.size := by omega
      clear hp1 ht1 hsz1 hszt hln hA1 hA2 hpw1 htw1 hbel
      go_wp2_with fail
      have hB1 : Below wr.heap.size wr (wr.alloc (.cells #[.int .i64 p1.head, .slice a1 p1.args.length c1] 25)) := (Below.refl _ _).alloc (Nat.le_refl _) _
      have HB1 := Lib.hid hB1
      have e1 := (hB1.cell (p := ⟨b2, o2 + k * 2, none⟩) (by simp; omega)).trans hd1
      have e2 := (hB1.cell (p := ⟨b2, o2 + k * 2 + 1, none⟩) (by simp; omega)).trans hd2
      have v0 : (wr.alloc (.cells #[.int .i64 p1.head, .slice a1 p1.args.length c1] 25)).cell? ⟨wr.heap.size, 0, none⟩ = some (.int .i64 p1.head) := by simp [go_sem]
      have v1 : (wr.alloc (.cells #[.int .i64 p1.head, .slice a1 p1.args.length c1] 25)).cell? ⟨wr.heap.size, 1, none⟩ = some (.slice a1 p1.args.length c1) := by simp [go_sem]
      clear hB1 hd1 hd2 hc1 hc2
      generalize wr.alloc (.cells #[.int .i64 p1.head, .slice a1 p1.args.length c1] 25) = wv at HB1 e1 e2 v0 v1 ⊢
      generalize wr.heap.size = bv at v0 v1 ⊢
      go_still_tail 6, (by kernel_rfl)
      change wpList _ _ _ _ _ wv.drew
      go_wp2_with fail
      refine (CALL.out wv.drew HB1.out.drew).mono ?_
      rintro e w3 ⟨hg3, h3⟩
      have HG3 := Lib.hid (grown_trans HG.out (grown_trans (grown_of_below HB1.out.drew) hg3))
      have hst := T.exts_take ps ts k p1 t1 [] HP1.out HT1'.out
      rw [HM1.out] at hst
      have HST := Lib.hid hst
      clear hst hg3 CALL e1 e2 v0 v1
      rcases h3 with ⟨M2, hM2, rfl, hT2⟩ | ⟨hM2, rfl⟩
      · have HM2 := Lib.hid hM2
        have HTT := Lib.hid hT2
        clear hM2 hT2
        go_wp2
        go_roundw
        case rel => exact ⟨k + 1, M2, by have := HL.out; omega, by go_num, HST.out.trans HM2.out, HTT.out, HG3.out⟩
        case measure => simp [intOf]; omega
      · have hr := T.exts_none ps ts (k + 1) [] (HST.out.trans hM2)
        have HR := Lib.hid hr
        clear hM2 hr
        go_wp2
        refine bodyPost_ret (v := .tuple #[.slice none 0 0, .bool false, .int .i64 0]) (by simp [results, Try.results33, go_sem]) rfl ?_
        refine ⟨[], false, 0, .inr ⟨⟨HL.out, Q1.out, Q2.out⟩, .inl ⟨HR.out, rfl, rfl, rfl⟩⟩, none, 0, rfl, IsBs.nil _ _ _ (by simp [maxLen]), HB3.out.trans (grown_below HG3.out hwB HB3.out.size)⟩
    · obtain rfl : k = ts.length := by have := HL.out; omega
      have hM1 := HM1.out
      rw [List.take_length, show ps.take ts.length = ps from by rw [← HL.out, List.take_length]] at hM1
      obtain ⟨f1, f2, f3⟩ := exts_facts HL.out Q1.out Q2.out hM1
      have hln := (T.exts_len _ _ _ _ hM1).1
      simp only [List.length_nil] at hln
      have HMM := Lib.hid hM1
      have HF1 := Lib.hid f1
      have HF2 := Lib.hid f2
      have HF3 := Lib.hid f3
      clear HM1 hM1 f1 f2 f3
      go_wp2_with fail
      refine (msubst_any M1 (by omega) HF1.out HF2.out HF3.out n₀ B wr (by omega) HT.out).mono ?_
      rintro e w4 ⟨a4, c4, rfl, hS, hb⟩
      have HS := Lib.hid hS
      have HF := Lib.hid ((HB3.out.trans (grown_below HG.out hwB HB3.out.size)).trans (hb.mono (by omega)))
      clear hS hb
      go_wp2
      refine bodyPost_ret (v := .tuple #[.slice a4 (sm M1).length c4, .bool true, .int .i64 0]) (by simp [results, Try.results33, go_sem]) rfl ?_
      exact ⟨sm M1, true, 0, .inr ⟨⟨HL.out, Q1.out, Q2.out⟩, .inr ⟨M1, HMM.out, rfl, rfl, rfl⟩⟩, a4, c4, rfl, HS.out, HF.out⟩

end Go.Proofs.Ytcbjnfdhghhgeaa

/- Contracts of match's Match and Variant. -/
namespace Go.Proofs.Ytcbjnfdhghhgeaa
set_option linter.unusedVariables false
set_option linter.unusedSimpArgs false
open Go.RowKit Go.Maps

theorem alone_mem {b : Nat} {x : T} {a : Option Addr} {c : Nat} {X : World} (hx : Cs b [.int .i64 x.head, .slice a x.args.length c] X) (hxw : (Lit.int .i64 x.head).wf = true) (hA : IsArgs X.heap.size X x.args a c) : IsArgs X.heap.size X [x] (some ⟨b, 0, none⟩) 1 := by
  obtain ⟨hx, cx⟩ := hx
  exact ⟨by simp, by simp [maxLen], .inr ⟨b, 0, rfl, hx, isT_iff.2 ⟨hxw, cx 0 _ rfl, _, _, cx 1 _ rfl, hA⟩, trivial⟩⟩
theorem exts_one (p t : T) (M : Sb) : T.exts [p] [t] M = p.ext t M := by
  rw [T.exts_cons]; cases p.ext t M <;> rfl
/-- What Match answers. -/
def MtR (p t : T) (s : Sb) (b : Bool) (k : Int) : Prop :=
  ((p.check ≠ 0 ∨ t.check ≠ 0) ∧ s = [] ∧ b = false ∧ k = 1) ∨
  ((p.check = 0 ∧ t.check = 0) ∧ ((p.ext t [] = none ∧ s = [] ∧ b = false ∧ k = 0) ∨ ∃ M, p.ext t [] = some M ∧ s = sm M ∧ b = true ∧ k = 0))
theorem matR_one {p t : T} {s : Sb} {b : Bool} {k : Int} (h : MatR [p] [t] s b k) : MtR p t s b k := by
  unfold MatR at h
  rw [badL_one, badL_one, exts_one] at h
  rcases h with ⟨h, h'⟩ | ⟨⟨_, h1, h2⟩, h'⟩
  · refine .inl ⟨?_, h'⟩
    rcases h with h | h | h
    · simp at h
    · exact .inl (by simpa using h)
    · exact .inr (by simpa using h)
  · exact .inr ⟨⟨by simpa using h1, by simpa using h2⟩, h'⟩
def MtPost (p t : T) (w : World) (e : Ending) (w' : World) : Prop := ∃ (s : Sb) (b : Bool) (k : Int) (a : Option Addr) (c : Nat), e = .returned (.tuple #[.slice a s.length c, .bool b, .int .i64 k]) ∧ IsBs w'.heap.size w' s a c ∧ Below w.heap.size w w' ∧ MtR p t s b k

set_option maxRecDepth 100000 in
set_option maxHeartbeats 2000000 in
theorem match_any (p t : T) (hps : p.size ≤ 100000) (hts : t.size ≤ 100000) (n₀ : Nat) (a : Option Addr) (c : Nat) (a' : Option Addr) (c' : Nat) (w : World) (hn : n₀ ≤ w.heap.size) (hpw : (Lit.int .i64 p.head).wf = true) (htw : (Lit.int .i64 t.head).wf = true) (hA : IsArgs n₀ w p.args a c) (hA' : IsArgs n₀ w t.args a' c') :
    Calls Try.prog 41 #[tm p.head a p.args.length c, tm t.head a' t.args.length c'] w (MtPost p t w) := by
  have HPW := Lib.hid hpw
  have HTW := Lib.hid htw
  have d0 := ((((Later.below (Below.refl _ w)).and (later_args (hA'.mono hn))).and (later_args (hA.mono hn))).push (Below.refl _ _) p.head a p.args.length c).push (Below.refl _ _) t.head a' t.args.length c'
  rw [heap_alloc_size] at d0
  have D := Lib.hid d0
  clear hpw htw hA hA' d0
  go_enter Try.func41, Try.ntmps41
  go_wp2_with fail
  have hsz : ((w.alloc (.cells #[.int .i64 p.head, .slice a p.args.length c] 25)).alloc (.cells #[.int .i64 t.head, .slice a' t.args.length c'] 25)).heap.size = w.heap.size + 1 + 1 := by simp
  generalize (w.alloc (.cells #[.int .i64 p.head, .slice a p.args.length c] 25)).alloc (.cells #[.int .i64 t.head, .slice a' t.args.length c'] 25) = wB at D hsz ⊢
  have d1 := (D.out.pushC (Below.refl _ _) #[.int .i64 p.head, .slice a p.args.length c] 25).pushC (Below.refl _ _) #[.int .i64 t.head, .slice a' t.args.length c'] 25
  rw [heap_alloc_size, hsz] at d1
  have D1 := Lib.hid d1
  clear d1 hsz D
  generalize (wB.alloc (.cells #[.int .i64 p.head, .slice a p.args.length c] 25)).alloc (.cells #[.int .i64 t.head, .slice a' t.args.length c'] 25) = w1 at D1 ⊢
  refine (matAll_any [p] [t] (by simp [T.sizes]; omega) (by simp [T.sizes]; omega) w1.heap.size _ 1 _ 1 w1 (Nat.le_refl _) (alone_mem D1.out.now.2.1 HPW.out D1.out.now.2.2.2.2.1) (alone_mem D1.out.now.1 HTW.out D1.out.now.2.2.2.2.2.1)).mono ?_
  rintro e w2 ⟨s, b, k, hR, a2, c2, rfl, hS, hb⟩
  have HS := Lib.hid hS
  have HR := Lib.hid (matR_one hR)
  have HB := Lib.hid (D1.out w2 hb).2.2.2.2.2.2
  clear hS hR hb D1
  go_wp2
  refine bodyPost_ret (v := .tuple #[.slice a2 s.length c2, .bool b, .int .i64 k]) (by simp [results, Try.results41, go_sem]) rfl ?_
  exact ⟨s, b, k, a2, c2, rfl, HS.out, HB.out, HR.out⟩

def VarR (a b : T) (x : Bool) (k : Int) : Prop :=
  ((a.check ≠ 0 ∨ b.check ≠ 0) ∧ x = false ∧ k = 1) ∨ ((a.check = 0 ∧ b.check = 0) ∧ x = ((a.ext b []).isSome && (b.ext a []).isSome) ∧ k = 0)
def VarPost (a b : T) (w : World) (e : Ending) (w' : World) : Prop := ∃ (x : Bool) (k : Int), e = .returned (.tuple #[.bool x, .int .i64 k]) ∧ Below w.heap.size w w' ∧ VarR a b x k

set_option maxRecDepth 100000 in
set_option maxHeartbeats 4000000 in
theorem variant_any (x y : T) (hxs : x.size ≤ 100000) (hys : y.size ≤ 100000) (n₀ : Nat) (a : Option Addr) (c : Nat) (a' : Option Addr) (c' : Nat) (w : World) (hn : n₀ ≤ w.heap.size) (hxw : (Lit.int .i64 x.head).wf = true) (hyw : (Lit.int .i64 y.head).wf = true) (hA : IsArgs n₀ w x.args a c) (hA' : IsArgs n₀ w y.args a' c') :
    Calls Try.prog 36 #[tm x.head a x.args.length c, tm y.head a' y.args.length c'] w (VarPost x y w) := by
  have HXW := Lib.hid hxw
  have HYW := Lib.hid hyw
  have d0 := ((((Later.below (Below.refl _ w)).and (later_args (hA'.mono hn))).and (later_args (hA.mono hn))).push (Below.refl _ _) x.head a x.args.length c).push (Below.refl _ _) y.head a' y.args.length c'
  rw [heap_alloc_size] at d0
  have D := Lib.hid d0
  clear hxw hyw hA hA' d0
  have hmm := run_makeMatcher
  go_enter Try.func36, Try.ntmps36
  go_wp2_with fail
  generalize (w.alloc (.cells #[.int .i64 x.head, .slice a x.args.length c] 25)).alloc (.cells #[.int .i64 y.head, .slice a' y.args.length c'] 25) = w1 at D ⊢
  generalize hb0 : w.heap.size = b0 at D ⊢
  have HB0 := Lib.hid hb0
  clear hb0
  refine (mNotValid_any x (by omega) w1.heap.size a c w1 (Nat.le_refl _) HXW.out D.out.now.2.2.1).mono ?_
  rintro e w2 ⟨rfl, hb⟩
  have D2 := Lib.hid (D.out.mv hb)
  clear hb D
  by_cases q1 : x.check = 0
  case neg =>
    rw [decide_eq_true (show x.check ≠ 0 from q1)]
    have Q1 := Lib.hid q1
    have HQ := Lib.hid D2.out.now.2.2.2.2
    clear q1 D2
    go_wp2
    refine bodyPost_ret (v := .tuple #[.bool false, .int .i64 1]) (by simp [results, Try.results36, go_sem]) rfl ?_
    exact ⟨false, 1, rfl, by rw [HB0.out]; exact HQ.out, .inl ⟨.inl Q1.out, rfl, rfl⟩⟩
  rw [decide_eq_false (show ¬ x.check ≠ 0 from fun h => h q1)]
  have Q1 := Lib.hid q1
  clear q1
  obtain ⟨⟨y0, y1⟩, ⟨x0, x1⟩, _⟩ := D2.out.now
  go_wp2_with fail
  clear y0 y1 x0 x1
  refine (mNotValid_any y (by omega) w2.heap.size a' c' w2 (Nat.le_refl _) HYW.out D2.out.now.2.2.2.1).mono ?_
  rintro e w3 ⟨rfl, hb⟩
  have D3 := Lib.hid (D2.out.mv hb)
  clear hb D2
  by_cases q2 : y.check = 0
  case neg =>
    rw [decide_eq_true (show y.check ≠ 0 from q2)]
    have Q2 := Lib.hid q2
    have HQ := Lib.hid D3.out.now.2.2.2.2
    clear q2 D3
    go_wp2
    refine bodyPost_ret (v := .tuple #[.bool false, .int .i64 1]) (by simp [results, Try.results36, go_sem]) rfl ?_
    exact ⟨false, 1, rfl, by rw [HB0.out]; exact HQ.out, .inl ⟨.inr Q2.out, rfl, rfl⟩⟩
  rw [decide_eq_false (show ¬ y.check ≠ 0 from fun h => h q2)]
  have Q2 := Lib.hid q2
  clear q2
  have hB4 : Below w3.heap.size w3 (w3.alloc (.map #[] 0)) := (Below.refl _ _).alloc (Nat.le_refl _) _
  have HB4 := Lib.hid hB4
  have HTE := Lib.hid (tab_empty w3.heap.size w3)
  have LA := Lib.hid (show IsArgs w3.heap.size (w3.alloc (.map #[] 0)) x.args a c ∧ IsArgs w3.heap.size (w3.alloc (.map #[] 0)) y.args a' c' from ⟨D3.out.now.2.2.1.below hB4, D3.out.now.2.2.2.1.below hB4⟩)
  obtain ⟨⟨y0, y1⟩, ⟨x0, x1⟩, _⟩ := D3.out _ hB4
  clear hB4
  go_wp2_with fail
  clear y0 y1 x0 x1
  have hz4 : (w3.alloc (.map #[] 0)).heap.size = w3.heap.size + 1 := by simp
  generalize w3.alloc (.map #[] 0) = w4 at HB4 HTE LA hz4 ⊢
  refine (extend_any x.size x (Nat.le_refl _) (by omega) y (by omega) [] (by simp; omega) (by simp) w3.heap.size w3.heap.size a c a' c' w4 (Nat.le_refl _) HTE.out HXW.out HYW.out LA.out.1 LA.out.2).mono ?_
  rintro e w5 ⟨hg5, h5⟩
  have hB5 := HB4.out.trans (grown_below hg5 (Nat.le_refl _) (by omega))
  have D5 := Lib.hid (D3.out.mv hB5)
  clear hg5 hB5 D3 HTE LA HB4 hz4
  rcases h5 with ⟨M', hM, rfl, _⟩ | ⟨hM, rfl⟩
  case inr =>
    have HQ := Lib.hid D5.out.now.2.2.2.2
    have HM := Lib.hid hM
    clear hM D5
    go_wp2
    refine bodyPost_ret (v := .tuple #[.bool false, .int .i64 0]) (by simp [results, Try.results36, go_sem]) rfl ?_
    exact ⟨false, 0, rfl, by rw [HB0.out]; exact HQ.out, .inr ⟨⟨Q1.out, Q2.out⟩, by rw [HM.out]; rfl, rfl⟩⟩
  have HM := Lib.hid hM
  clear hM
  have hB6 : Below w5.heap.size w5 (w5.alloc (.map #[] 0)) := (Below.refl _ _).alloc (Nat.le_refl _) _
  have HB6 := Lib.hid hB6
  have HTE := Lib.hid (tab_empty w5.heap.size w5)
  have LA := Lib.hid (show IsArgs w5.heap.size (w5.alloc (.map #[] 0)) x.args a c ∧ IsArgs w5.heap.size (w5.alloc (.map #[] 0)) y.args a' c' from ⟨D5.out.now.2.2.1.below hB6, D5.out.now.2.2.2.1.below hB6⟩)
  obtain ⟨⟨y0, y1⟩, ⟨x0, x1⟩, _⟩ := D5.out _ hB6
  clear hB6
  go_wp2_with fail
  clear y0 y1 x0 x1
  have hz6 : (w5.alloc (.map #[] 0)).heap.size = w5.heap.size + 1 := by simp
  generalize w5.alloc (.map #[] 0) = w6 at HB6 HTE LA hz6 ⊢
  refine (extend_any y.size y (Nat.le_refl _) (by omega) x (by omega) [] (by simp; omega) (by simp) w5.heap.size w5.heap.size a' c' a c w6 (Nat.le_refl _) HTE.out HYW.out HXW.out LA.out.2 LA.out.1).mono ?_
  rintro e w7 ⟨hg7, h7⟩
  have hB7 := HB6.out.trans (grown_below hg7 (Nat.le_refl _) (by omega))
  have HQ := Lib.hid (D5.out w7 hB7).2.2.2.2
  clear hg7 hB7 D5 HTE LA HB6 hz6
  rcases h7 with ⟨M2, hM2, rfl, _⟩ | ⟨hM2, rfl⟩
  · have HM2 := Lib.hid hM2
    clear hM2
    go_wp2
    refine bodyPost_ret (v := .tuple #[.bool true, .int .i64 0]) (by simp [results, Try.results36, go_sem]) rfl ?_
    exact ⟨true, 0, rfl, by rw [HB0.out]; exact HQ.out, .inr ⟨⟨Q1.out, Q2.out⟩, by rw [HM.out, HM2.out]; rfl, rfl⟩⟩
  · have HM2 := Lib.hid hM2
    clear hM2
    go_wp2
    refine bodyPost_ret (v := .tuple #[.bool false, .int .i64 0]) (by simp [results, Try.results36, go_sem]) rfl ?_
    exact ⟨false, 0, rfl, by rw [HB0.out]; exact HQ.out, .inr ⟨⟨Q1.out, Q2.out⟩, by rw [HM.out, HM2.out]; rfl, rfl⟩⟩

end Go.Proofs.Ytcbjnfdhghhgeaa
