/- Plain words for BankOnce: a bank with room keeps each term once. -/
import Derived.Test.YtkejacodofmlhaaBkW
namespace Go.Proofs.Ytkejacodofmlhaa
set_option linter.unusedVariables false
set_option linter.unusedSimpArgs false
open Go.RowKit

theorem pt_room : ∀ (N : Nat) (t : T), t.size ≤ N → ∀ (L : List T), L.length + t.size ≤ 4096 → (∃ n, (pt L t).2 = some n) ∧ (pt L t).1.length ≤ L.length + t.size := by
  intro N
  induction N with
  | zero => intro t ht; have := T.size_pos t; omega
  | succ N ih =>
    intro t ht L hL
    have hl : ∀ (us : List T), T.sizes us ≤ N → ∀ (L : List T), L.length + T.sizes us ≤ 4096 → (pts L us).2 = true ∧ (pts L us).1.length ≤ L.length + T.sizes us := by
      intro us
      induction us with
      | nil => intro _ L _; simp [pts, T.sizes]
      | cons u us ihu =>
        intro hs L hL
        simp only [T.sizes] at hs hL ⊢
        obtain ⟨⟨n, hn⟩, h1⟩ := ih u (by omega) L (by omega)
        rw [pts]
        rcases hp : pt L u with ⟨L1, o⟩
        rw [hp] at hn h1
        simp only [] at hn h1
        subst hn
        simp only []
        obtain ⟨h2, h3⟩ := ihu (by omega) L1 (by omega)
        exact ⟨h2, by omega⟩
    have hsz := T.size_eq t
    rw [pt_eq]
    by_cases hin : t ∈ L
    · rw [if_pos hin]; exact ⟨⟨_, rfl⟩, by simp⟩
    · rw [if_neg hin]
      obtain ⟨h1, h2⟩ := hl t.args (by omega) L (by omega)
      rcases hp : pts L t.args with ⟨L1, b⟩
      rw [hp] at h1 h2
      simp only [] at h1 h2
      subst h1
      simp only []
      rw [if_neg (by omega)]
      exact ⟨⟨_, rfl⟩, by simp; omega⟩

theorem BankAt.enc {B : Nat} {F : Nat → Prop} {W : World} {bb : Nat} {L : List T} (h : BankAt B F W bb L) : ∃ rs, Enc L rs := by
  obtain ⟨_, _, _, rs, _, _, _, h4, _⟩ := h
  exact ⟨rs, h4⟩

/-- What a put of a valid term leaves where there is room. -/
theorem once_put {L : List T} {rs : List (List Int)} (E : Enc L rs) {t : T} (hc : t.check = 0) (hw : wfT t = true) (hL : L.length + t.size ≤ 4096) :
    ∃ n : Nat, putV L t = .tuple #[.int .i64 (n : Int), .int .i64 0] ∧ putL L t = (pt L t).1 ∧ (pt L t).1[n]? = some t ∧ (pt L t).1.length ≤ L.length + t.size := by
  obtain ⟨⟨n, hn⟩, h2⟩ := pt_room _ t (Nat.le_refl _) L hL
  obtain ⟨_, _, _, h4⟩ := kp_pt _ t (Nat.le_refl _) (nar_of_check _ t (Nat.le_refl _) hc) hw E
  refine ⟨n, ?_, ?_, h4 n hn, h2⟩
  · unfold putV; rw [if_pos hc, hn]; rfl
  · unfold putL; rw [if_pos hc]
theorem once_again {L : List T} {rs : List (List Int)} (E : Enc L rs) {t : T} (hc : t.check = 0) {n : Nat} (hn : L[n]? = some t) :
    putV L t = .tuple #[.int .i64 (n : Int), .int .i64 0] ∧ putL L t = L ∧ findV L t = some n := by
  obtain ⟨h1, h2⟩ := idx_at (fun {i j r} => E.nodup) hn
  have hp : pt L t = (L, some n) := by rw [pt_eq, if_pos h1, h2]
  refine ⟨?_, ?_, ?_⟩
  · unfold putV; rw [if_pos hc, hp]; rfl
  · unfold putL; rw [if_pos hc, hp]
  · unfold findV; rw [if_pos hc, fi_at E hn]
theorem once_wrong {L : List T} {t : T} (hc : t.check ≠ 0) : putV L t = .tuple #[.int .i64 0, .int .i64 1] ∧ putL L t = L := by
  unfold putV putL
  rw [if_neg hc, if_neg hc]
  exact ⟨rfl, rfl⟩
theorem once_ids {L : List T} {rs : List (List Int)} (E : Enc L rs) {t : T} {n : Nat} (hn : L[n]? = some t) {j : Nat} {s : T} (hs : t.args[j]? = some s) : ∃ k : Nat, (idsOf L t)[j]? = some (k : Int) ∧ k < n ∧ L[k]? = some s := by
  obtain ⟨ids, _, h2, h3⟩ := E.row hn
  have e := ids_eq E h2 (fun {j s} h => by obtain ⟨k, a, _, b⟩ := h3 h; exact ⟨k, a, b⟩)
  obtain ⟨k, a, b, c⟩ := h3 hs
  exact ⟨k, by rw [← e]; exact a, b, c⟩
theorem once_find {L : List T} {rs : List (List Int)} (E : Enc L rs) {t u : T} {n k : Nat} (hn : L[n]? = some t) (hk : findV L u = some k) : k = n ↔ u = t := by
  unfold findV at hk
  split at hk
  · have h := fi_get hk
    constructor
    · rintro rfl; rw [hn] at h; exact (Option.some.inj h).symm
    · rintro rfl; exact E.nodup h hn
  · cases hk

theorem BankAt.low {B B' : Nat} {F : Nat → Prop} {W : World} {bb : Nat} {L : List T} (h : BankAt B F W bb L) (hB : B' ≤ B) : BankAt B' F W bb L := by
  obtain ⟨Tb, sv, M, rs, h1, h2, h3, h4, h5, h6, h7⟩ := h
  exact ⟨Tb, sv, M, rs, h1, by omega, ⟨h3.heap, by have := h3.base; omega, by have := h3.mb; omega, ⟨h3.rows.1, h3.rows.2.imp id fun ⟨g, cap, cur, p1, p2, p3⟩ => ⟨g, cap, cur, p1, by omega, p3⟩⟩, h3.map, h3.ok, h3.few⟩, h4, h5, h6, h7⟩
theorem FrS.since {F : Nat → Prop} {n : Nat} {a b c : World} (h : Below n a b) (k : FrS F b c) (hF : ∀ i, F i → n ≤ i ∧ i < b.heap.size) (hn : n ≤ b.heap.size) : Below n a c := h.trans (k.below hn (fun i hi => (hF i hi).1))
theorem fw_bound {F : Nat → Prop} {n : Nat} {w w' : World} (hF : ∀ i, F i → n ≤ i ∧ i < w.heap.size) (hn : n ≤ w.heap.size) (hz : w.heap.size ≤ w'.heap.size) : ∀ i, Fw F w w' i → n ≤ i ∧ i < w'.heap.size := fun i hi => by
  rcases hi with hi | hi
  · have := hF i hi; omega
  · omega

end Go.Proofs.Ytkejacodofmlhaa
