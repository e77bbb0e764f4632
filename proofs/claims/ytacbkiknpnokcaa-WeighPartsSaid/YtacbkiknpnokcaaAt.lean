/- Contract of At. -/
import Derived.Test.YtacbkiknpnokcaaLeaf
import Derived.Test.YtacbkiknpnokcaaTp
import Derived.Test.YtacbkiknpnokcaaRCp0
namespace Go.Proofs.Ytacbkiknpnokcaa
set_option linter.unusedVariables false
set_option linter.unusedSimpArgs false
open Go.RowKit

def AtPost (n₀ : Nat) (t : T) (p : List Int) (w : World) (e : Ending) (w' : World) : Prop :=
  (∃ s a c, t.at p = some s ∧ e = .returned (.tuple #[tm s.head a s.args.length c, .bool true]) ∧ (Lit.int .i64 s.head).wf = true ∧ IsArgs n₀ w' s.args a c ∧ Below w.heap.size w w') ∨
  (t.at p = none ∧ e = .returned (.tuple #[tm 0 none 0 0, .bool false]) ∧ Below w.heap.size w w')

def AtI (n₀ : Nat) (t : T) (p : List Int) (w w2 : World) (i : Value) (wr : World) : Prop :=
  ∃ (k : Nat) (s : T) (a : Option Addr) (c : Nat), k ≤ p.length ∧ i = .int .i64 k ∧ t.at (p.take k) = some s ∧ (Lit.int .i64 s.head).wf = true ∧ wr.heap[w.heap.size]? = some (.cells #[.int .i64 s.head, .slice a s.args.length c] 25 (0, 0)) ∧ IsArgs n₀ wr s.args a c ∧ Below w.heap.size w wr ∧ wr.heap[w.heap.size + 1]? = w2.heap[w.heap.size + 1]? ∧ wr.heap.size = w.heap.size + 2

set_option maxRecDepth 100000 in
set_option maxHeartbeats 2000000 in
theorem at_any (t : T) (p : List Int) (n₀ : Nat) (a : Option Addr) (c : Nat) (ap : Option Addr) (cp : Nat) (w : World) (hn : n₀ ≤ w.heap.size) (hwf : (Lit.int .i64 t.head).wf = true) (hA : IsArgs n₀ w t.args a c) (hP : IsIs n₀ w p ap cp) :
    Calls Try.prog 9 #[tm t.head a t.args.length c, .slice ap p.length cp] w (AtPost n₀ t p w) := by
  have HWF := Lib.hid hwf
  have HA := Lib.hid hA
  have HP := Lib.hid hP
  have hpl : p.length ≤ cp ∧ cp ≤ maxLen := ⟨hP.1, hP.2.1⟩
  unfold maxLen at hpl
  obtain ⟨hp1, hp2⟩ := hpl
  clear hwf hA hP
  go_enter Try.func9, Try.ntmps9
  go_wp2
  have hst : AtI n₀ t p w ((w.alloc (tmCells t.head a t.args.length c)).alloc (tmCells 0 none 0 0)) (.int .i64 ((0 : Nat) : Int)) ((w.alloc (tmCells t.head a t.args.length c)).alloc (tmCells 0 none 0 0)) := by
    have hbl : Below w.heap.size w ((w.alloc (tmCells t.head a t.args.length c)).alloc (tmCells 0 none 0 0)) := ((Below.refl _ w).alloc (Nat.le_refl _) _).alloc (by simp) _
    refine ⟨0, t, a, c, Nat.zero_le _, rfl, by simp [T.at], HWF.out, ?_, HA.out.below (hbl.mono hn), hbl, rfl, by simp⟩
    rw [Below.heap_alloc _ _ _ (by simp)]
    exact heap_alloc_new _ _
  have hres : ((w.alloc (tmCells t.head a t.args.length c)).alloc (tmCells 0 none 0 0)).heap[w.heap.size + 1]? = some (.cells #[.int .i64 0, .slice none 0 0] 25 (0, 0)) := by
    have := heap_alloc_new (w.alloc (tmCells t.head a t.args.length c)) (tmCells 0 none 0 0)
    simpa using this
  generalize (w.alloc (tmCells t.head a t.args.length c)).alloc (tmCells 0 none 0 0) = w2 at hst hres ⊢
  have HST := Lib.hid hst
  have HRES := Lib.hid hres
  clear hst hres
  go_loopw [10] (fun i wr => AtI n₀ t p w w2 i wr) (fun i _ => p.length - (intOf i).toNat)
  case atStart => exact HST.out
  case round =>
    clear HST
    obtain ⟨k, s, a', c', hk, rfl, hat, hswf, hbox, hA', hbl, hrs, hsz⟩ := hrel
    have hrs' := hrs.trans HRES.out
    have b0 : wr.cell? ⟨w.heap.size, 0, none⟩ = some (.int .i64 s.head) := by simp [World.cell?, hbox]
    have b1 : wr.cell? ⟨w.heap.size, 1, none⟩ = some (.slice a' s.args.length c') := by simp [World.cell?, hbox]
    have bf0 : wr.frozen? ⟨w.heap.size, 0, none⟩ = false := by simp [World.frozen?, hbox]
    have bf1 : wr.frozen? ⟨w.heap.size, 1, none⟩ = false := by simp [World.frozen?, hbox]
    have r0 : wr.cell? ⟨w.heap.size + 1, 0, none⟩ = some (.int .i64 0) := by simp [World.cell?, hrs']
    have r1 : wr.cell? ⟨w.heap.size + 1, 1, none⟩ = some (.slice none 0 0) := by simp [World.cell?, hrs']
    have rf0 : wr.frozen? ⟨w.heap.size + 1, 0, none⟩ = false := by simp [World.frozen?, hrs']
    have rf1 : wr.frozen? ⟨w.heap.size + 1, 1, none⟩ = false := by simp [World.frozen?, hrs']
    have HAT := Lib.hid hat
    have HSW := Lib.hid hswf
    have HBOX := Lib.hid hbox
    have HA' := Lib.hid hA'
    have HBL := Lib.hid hbl
    have HRS := Lib.hid hrs
    have HSZ := Lib.hid hsz
    have hlc : s.args.length ≤ c' ∧ c' ≤ maxLen := ⟨hA'.1, hA'.2.1⟩
    unfold maxLen at hlc
    obtain ⟨hl1, hl2⟩ := hlc
    clear hat hswf hbox hA' hbl hrs hrs' hsz
    by_cases hlt : k < p.length
    · obtain ⟨bp, op, z, rfl, hbp, hz, hcz⟩ := (HP.out.below (HBL.out.mono hn)).elem hlt
      have HZ := Lib.hid hz
      clear hz
      by_cases hneg : z < 0
      · clear hcz b1 b0 bf0 bf1
        have hcz := (HP.out.below (HBL.out.mono hn)).elem hlt
        obtain ⟨bp', op', z', e1, _, hz', hcz⟩ := hcz
        cases e1
        have e2 := HZ.out
        rw [hz'] at e2
        obtain rfl := Option.some.inj e2
        clear e2 hz'
        go_wp2
        refine bodyPost_ret (v := .tuple #[tm 0 none 0 0, .bool false]) (by simp [results, Try.results9, go_sem, r0, r1]) rfl (.inr ⟨T.at_none HAT.out HZ.out (T.at_one_none (.inl hneg)), rfl, ?_⟩)
        exact (HBL.out.setCell (p := ⟨w.heap.size + 1, 0, none⟩) (by simp) _).setCell (p := ⟨w.heap.size + 1, 1, none⟩) (by simp) _
      · by_cases hbig : (s.args.length : Int) ≤ z
        · go_wp2
          refine bodyPost_ret (v := .tuple #[tm 0 none 0 0, .bool false]) (by simp [results, Try.results9, go_sem, r0, r1]) rfl (.inr ⟨T.at_none HAT.out HZ.out (T.at_one_none (.inr hbig)), rfl, ?_⟩)
          exact (HBL.out.setCell (p := ⟨w.heap.size + 1, 0, none⟩) (by simp) _).setCell (p := ⟨w.heap.size + 1, 1, none⟩) (by simp) _
        · obtain ⟨n, rfl⟩ : ∃ n : Nat, z = (n : Int) := ⟨z.toNat, by omega⟩
          have hns : n < s.args.length := by omega
          obtain ⟨b, o, x, a2, c2, rfl, hbn, hx, hxw, hc1, hc2, hA2⟩ := HA'.out.elem (i := n) hns
          have HX := Lib.hid hx
          have HXW := Lib.hid hxw
          have HA2 := Lib.hid hA2
          clear hx hxw hA2
          go_wp2
          go_roundw
          case rel =>
            refine ⟨k + 1, x, a2, c2, by omega, by go_num, ?_, HXW.out, ?_, ?_, ?_, ?_, ?_⟩
            · rw [T.at_take HAT.out HZ.out]; exact T.at_one (by omega) (by omega) (by simpa using HX.out)
            · rw [heap_setCell_same (heap_setCell_same HBOX.out _)]; rfl
            · exact HA2.out.below (((Below.refl n₀ wr).setCell (p := ⟨w.heap.size, 0, none⟩) hn _).setCell (p := ⟨w.heap.size, 1, none⟩) hn _)
            · exact (HBL.out.setCell (p := ⟨w.heap.size, 0, none⟩) (Nat.le_refl _) _).setCell (p := ⟨w.heap.size, 1, none⟩) (Nat.le_refl _) _
            · rw [Below.heap_setCell _ _ _ _ (by simp), Below.heap_setCell _ _ _ _ (by simp)]; exact HRS.out
            · simpa using HSZ.out
          case measure => simp [intOf]; omega
    · obtain rfl : k = p.length := by omega
      have hat := HAT.out
      rw [List.take_length] at hat
      go_wp2
      refine bodyPost_ret (v := .tuple #[tm s.head a' s.args.length c', .bool true]) (by simp [results, Try.results9, go_sem, r0, r1]) rfl (.inl ⟨s, a', c', hat, rfl, HSW.out, ?_, ?_⟩)
      · exact HA'.out.below (((Below.refl n₀ wr).setCell (p := ⟨w.heap.size + 1, 0, none⟩) (by simp; omega) _).setCell (p := ⟨w.heap.size + 1, 1, none⟩) (by simp; omega) _)
      · exact (HBL.out.setCell (p := ⟨w.heap.size + 1, 0, none⟩) (by simp) _).setCell (p := ⟨w.heap.size + 1, 1, none⟩) (by simp) _

end Go.Proofs.Ytacbkiknpnokcaa
