/- Contract of the document's WorldFew: it tells something. -/
import Derived.Test.YtleohdddaadbeaaWn
namespace Go.Proofs.Ytleohdddaadbeaa
set_option linter.unusedVariables false
set_option linter.unusedSimpArgs false
open Go.RowKit

def WfI (m : Ip) (w : World) (n i : Value) (wr : World) : Prop := ∃ (k : Nat) (z : Int), k ≤ m.rows.length ∧ i = .int .i64 k ∧ n = .int .i64 z ∧ Below w.heap.size w wr

def WfPost (w : World) (e : Ending) (w' : World) : Prop := ∃ b : Bool, e = .returned (.bool b) ∧ Below w.heap.size w w'

set_option maxRecDepth 100000 in
set_option maxHeartbeats 2000000 in
theorem worldFew_any (m : Ip) (n₀ : Nat) (ma : Option Addr) (mc : Nat) (w : World) (hn : n₀ ≤ w.heap.size) (hM : IsRs n₀ w m.rows ma mc) :
    Calls Try.prog 25 #[ipV m ma mc] w (WfPost w) := by
  have hlc : m.rows.length ≤ mc ∧ mc ≤ maxLen := ⟨hM.1, hM.2.1⟩
  unfold maxLen at hlc
  obtain ⟨hl1, hl2⟩ := hlc
  have d0 := ((Later.below (Below.refl _ w)).and (later_rs (hM.mono hn))).pushI (Below.refl _ _) m ma mc
  have D := Lib.hid d0
  clear d0 hM
  go_enter Try.func25, Try.ntmps25
  go_wp2
  generalize w.alloc (ipO m ma mc) = w1 at D ⊢
  generalize hb0 : w.heap.size = b0 at D ⊢
  have HB0 := Lib.hid hb0
  clear hb0
  go_loopw [3, 4] (fun n i wr => WfI m w1 n i wr) (fun _ i _ => m.rows.length - (intOf i).toNat)
  case atStart => exact ⟨0, 0, Nat.zero_le _, rfl, rfl, Below.refl _ _⟩
  case round =>
    obtain ⟨k, z, hk, rfl, rfl, hB⟩ := hrel
    have HB := Lib.hid hB
    have D2 := Lib.hid (D.out.mv hB)
    have HQ := Lib.hid D2.out.now.2.2
    obtain ⟨⟨i0, i1⟩, hrs, _⟩ := D2.out.now
    clear hB
    by_cases hlt : k < m.rows.length
    · obtain ⟨rb, ro, x, ra, rc, rfl, hrb, hxs, hrc, hri⟩ := hrs.elem hlt
      have hk0 : (0 : Int) ≤ (k : Int) := Int.natCast_nonneg _
      have hk1 : (k : Int) < (m.rows.length : Int) := by omega
      clear hxs hri hrs
      by_cases q : m.rows.length ≤ 300
      · by_cases q2 : z ≤ 3000
        · go_wp2
          go_roundw
          case rel => exact ⟨k + 1, _, by omega, by go_num, rfl, HB.out⟩
          case measure => simp [intOf]; omega
        · go_wp2
          all_goals (go_ret; exact ⟨_, rfl, HB0.out ▸ HQ.out⟩)
      · go_wp2
        all_goals (go_ret; exact ⟨_, rfl, HB0.out ▸ HQ.out⟩)
    · obtain rfl : k = m.rows.length := by omega
      clear hrs
      by_cases q : m.rows.length ≤ 300
      · by_cases q2 : z ≤ 3000
        · go_wp2
          all_goals (go_ret; exact ⟨_, rfl, HB0.out ▸ HQ.out⟩)
        · go_wp2
          all_goals (go_ret; exact ⟨_, rfl, HB0.out ▸ HQ.out⟩)
      · go_wp2
        all_goals (go_ret; exact ⟨_, rfl, HB0.out ▸ HQ.out⟩)

end Go.Proofs.Ytleohdddaadbeaa
