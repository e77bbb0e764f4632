/- The bank in memory; contracts of New, Size, check, Put. -/
import Derived.Test.YtkejacodofmlhaaBkD
import Derived.Test.YtkejacodofmlhaaCheck
namespace Go.Proofs.Ytkejacodofmlhaa
set_option linter.unusedVariables false
set_option linter.unusedSimpArgs false
open Go.RowKit Go.Maps

/-- Block bb is a bank that keeps the terms L; its own blocks are in F. -/
def BankAt (B : Nat) (F : Nat → Prop) (W : World) (bb : Nat) (L : List T) : Prop :=
  ∃ Tb sv M rs, W.heap[bb]? = some (.cells #[.pointer (some ⟨Tb, 0, none⟩)] 68 (0, 0)) ∧ B ≤ bb ∧ IsK B Tb W sv M rs ∧ Enc L rs ∧ (∀ i, Own3 Tb sv M i → F i) ∧ F bb ∧ ¬ Own3 Tb sv M bb
theorem BankAt.kept {B : Nat} {F : Nat → Prop} {W W' : World} {bb : Nat} {L : List T} (h : BankAt B F W bb L) (hk : ∀ i, F i → i < W.heap.size → W'.heap[i]? = W.heap[i]?) : BankAt B F W' bb L := by
  obtain ⟨Tb, sv, M, rs, h1, h2, h3, h4, h5, h6, h7⟩ := h
  exact ⟨Tb, sv, M, rs, (hk bb h6 (Array.getElem?_eq_some_iff.1 h1).1).trans h1, h2, h3.kept (fun i hi => hk i (h5 i hi) (h3.own_lt hi)), h4, h5, h6, h7⟩
theorem BankAt.later {B : Nat} {F : Nat → Prop} {W W' : World} {bb : Nat} {L : List T} (h : BankAt B F W bb L) (hb : Below W.heap.size W W') : BankAt B F W' bb L := h.kept (fun i _ hi => hb.block i hi)
theorem BankAt.mono {B : Nat} {F F' : Nat → Prop} {W : World} {bb : Nat} {L : List T} (h : BankAt B F W bb L) (hF : ∀ i, F i → F' i) : BankAt B F' W bb L := by
  obtain ⟨Tb, sv, M, rs, h1, h2, h3, h4, h5, h6, h7⟩ := h
  exact ⟨Tb, sv, M, rs, h1, h2, h3, h4, fun i hi => hF i (h5 i hi), hF bb h6, h7⟩

theorem run_makeBank (w : World) : (Instr.makeMap 73 none).run Try.prog w = .ok (.map (some w.heap.size)) (w.alloc (.map #[] 0)) := by
  simp [Instr.makeMap, run_underlying Try.underlying73, asInt, asIntOf, Result.andThen]

def NewPost (w : World) (e : Ending) (w' : World) : Prop := ∃ bb, e = .returned (.pointer (some ⟨bb, 0, none⟩)) ∧ BankAt w.heap.size (fun i => w.heap.size ≤ i ∧ i < w'.heap.size) w' bb [] ∧ Below w.heap.size w w'

set_option maxRecDepth 100000 in
set_option maxHeartbeats 1000000 in
theorem newTable_any (w : World) : Calls Try.prog 36 #[] w fun e w' => e = .returned (.pointer (some ⟨w.heap.size + 1, 0, none⟩)) ∧ w' = (w.alloc (.map #[] 0)).alloc (.cells #[.slice none 0 0, .map (some w.heap.size)] 75) := by
  have hmk := run_makeBank
  go_enter Try.func36, Try.ntmps36
  go_wp2
  go_ret
  exact ⟨by simp, rfl⟩

set_option maxRecDepth 100000 in
set_option maxHeartbeats 1000000 in
theorem new_any (w : World) : Calls Try.prog 14 #[] w (NewPost w) := by
  go_enter Try.func14, Try.ntmps14
  go_wp2_with fail
  refine (newTable_any w).mono ?_
  rintro e w1 ⟨rfl, hw1⟩
  have h1 : w1.heap[w.heap.size + 1]? = some (.cells #[.slice none 0 0, .map (some w.heap.size)] 75 (0, 0)) := by
    rw [hw1]
    have := heap_alloc_new (w.alloc (.map #[] 0)) (.cells #[.slice none 0 0, .map (some w.heap.size)] 75)
    simpa using this
  have h2 : MapK w1 w.heap.size [] := (MapK.made w).kept (by rw [hw1]; exact Below.heap_alloc _ _ _ (by simp))
  have hz : w1.heap.size = w.heap.size + 2 := by rw [hw1]; simp
  have hb : Below w.heap.size w w1 := by rw [hw1]; exact ((Below.refl _ _).alloc (Nat.le_refl _) _).alloc (by simp) _
  have hI : IsK w.heap.size (w.heap.size + 1) w1 (.slice none 0 0) w.heap.size [] := ⟨h1, by omega, Nat.le_refl _, World.ownsRow_nil _ _ _ _, h2, by simp, by simp⟩
  have HB := Lib.hid hb
  have HI := Lib.hid hI
  have HZ := Lib.hid hz
  clear hw1 h1 h2 hz hb hI
  go_wp2
  go_ret
  have hb2 : Below w1.heap.size w1 (w1.alloc (.cells #[.pointer (some ⟨w.heap.size + 1, 0, none⟩)] 68)) := (Below.refl _ _).alloc (Nat.le_refl _) _
  have hz := HZ.out
  refine ⟨w1.heap.size, rfl, ⟨w.heap.size + 1, _, _, [], heap_alloc_new w1 _, by omega, HI.out.later hb2, Enc.nil, fun i hi => ?_, ⟨by omega, by simp⟩, fun e => ?_⟩, HB.out.trans (hb2.mono HB.out.size)⟩
  · have h1 := HI.out.own_ge hi
    have h2 := HI.out.own_lt hi
    exact ⟨h1, by simp; omega⟩
  · have := HI.out.own_lt e
    omega

set_option maxRecDepth 100000 in
set_option maxHeartbeats 1000000 in
theorem bsize_any {B : Nat} {F : Nat → Prop} {bb : Nat} {L : List T} (w : World) (h : BankAt B F w bb L) : Calls Try.prog 25 #[.pointer (some ⟨bb, 0, none⟩)] w fun e w' => e = .returned (.int .i64 (L.length : Nat)) ∧ w' = w := by
  obtain ⟨Tb, sv, M, rs, h1, h2, h3, h4, h5, h6, h7⟩ := h
  have hb := (Array.getElem?_eq_some_iff.1 h1).1
  have ht := h3.lt
  have c0 : w.cell? ⟨bb, 0, none⟩ = some (.pointer (some ⟨Tb, 0, none⟩)) := by simp [World.cell?, h1]
  have c1 : w.cell? ⟨Tb, 0, none⟩ = some sv := by simp [World.cell?, h3.heap]
  obtain ⟨sa, sc, rfl⟩ : ∃ sa sc, sv = .slice sa rs.length sc := by
    rcases h3.rows.2 with ⟨h, h0⟩ | ⟨g, cap, cur, h, _⟩
    · exact ⟨none, 0, by rw [h, h0]⟩
    · exact ⟨_, _, h⟩
  rw [← h4.len]
  clear h1 h2 h3 h4 h5 h6 h7
  go_enter Try.func25, Try.ntmps25
  go_wp2
  go_ret
  exact ⟨rfl, rfl⟩

def chkI (n : Nat) (id : Int) : Int := if id < 0 ∨ (n : Int) ≤ id then 6 else 0
set_option maxRecDepth 100000 in
set_option maxHeartbeats 1000000 in
theorem bcheck_any {B : Nat} {F : Nat → Prop} {bb : Nat} {L : List T} (id : Int) (w : World) (h : BankAt B F w bb L) : Calls Try.prog 41 #[.pointer (some ⟨bb, 0, none⟩), .int .i64 id] w fun e w' => e = .returned (.int .i64 (chkI L.length id)) ∧ w' = w := by
  have CS := Lib.hid (bsize_any w h)
  clear h
  by_cases h0 : id < 0
  · have hc : chkI L.length id = 6 := by unfold chkI; rw [if_pos (.inl h0)]
    rw [hc]
    clear hc
    go_enter Try.func41, Try.ntmps41
    go_wp2
    go_ret
    exact ⟨rfl, rfl⟩
  · have h0' : 0 ≤ id := by omega
    by_cases h1 : (L.length : Int) ≤ id
    · have hc : chkI L.length id = 6 := by unfold chkI; rw [if_pos (.inr h1)]
      rw [hc]
      clear hc
      go_enter Try.func41, Try.ntmps41
      go_wp2_with fail
      refine CS.out.mono ?_
      rintro e w' ⟨rfl, rfl⟩
      go_wp2
      go_ret
      exact ⟨rfl, rfl⟩
    · have hc : chkI L.length id = 0 := by unfold chkI; rw [if_neg (by omega)]
      rw [hc]
      clear hc
      go_enter Try.func41, Try.ntmps41
      go_wp2_with fail
      refine CS.out.mono ?_
      rintro e w' ⟨rfl, rfl⟩
      go_wp2
      go_ret
      exact ⟨rfl, rfl⟩

end Go.Proofs.Ytkejacodofmlhaa
