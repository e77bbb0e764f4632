/- Q6a: joined of Law2, At. -/
import Derived.Test.YtbfanbaijombaaaQ1a
import Derived.Test.YtbfanbaijombaaaTp
import Derived.ChangeSlices
import Derived.Test.YtbfanbaijombaaaQ1e
/- Reading slices of numbers out of memory. -/
namespace Go.Proofs.Ytbfanbaijombaaa
set_option linter.unusedVariables false
set_option linter.unusedSimpArgs false
set_option maxRecDepth 100000
open Go.ChangeShapes Go.WideShapes Go.ChangeAt Go.RowKit Go.Joins

section
variable {H : Type} {enc : TypeId × Value → H} {w : World} {sp : Nat → Bool} {hd : Bool}

theorem trod_is {n : Nat} {cs : List Value} {x : DataW H × List MemPlace} (h : DataW.trod enc Try.prog w 0 sp hd n 35 cs = some x) : ∃ (zs : List Int) (a : Option Addr) (c : Nat), cs = [.slice a zs.length c] ∧ IsIs w.heap.size w zs a c := by
  rcases DataW.trod_slice Try.underlying35 h with ⟨rfl, _⟩ | ⟨a, len, cap, elems, rest, m, hm, rfl, _, _, hlc, hcm, hel, hcell, _, _⟩
  · exact ⟨[], none, 0, rfl, ⟨Nat.le_refl _, by simp [maxLen], .inl rfl⟩⟩
  · cases len with
    | zero => exact ⟨[], some a, cap, rfl, ⟨hlc, hcm, .inl rfl⟩⟩
    | succ len =>
      have each : ∀ i, i < len + 1 → ∃ z : Int, w.cell? ((a.add (i * 1)).add 0) = some (.int .i64 z) := by
        intro i hi
        have h1 := hcell i hi
        rw [List.getElem?_eq_getElem (by omega), cellsInt, Option.bind_eq_some_iff] at h1
        obtain ⟨cs, hcs, ht⟩ := h1
        obtain ⟨k, e0, _, _⟩ := DataW.trod_int Try.underlying3 ht
        subst e0
        refine ⟨k, ?_⟩
        simp [World.cells?, Option.bind_eq_some_iff] at hcs
        simpa using hcs
      obtain ⟨b, o, spot⟩ := a
      have hspot : spot = none := by
        obtain ⟨z, h1⟩ := each 0 (by omega)
        cases spot with
        | none => rfl
        | some k => unfold World.cell? at h1; simp [Addr.add] at h1; split at h1 <;> simp at h1
      subst hspot
      simp only [add_none, Nat.add_zero, Nat.mul_one] at each
      have hlt : b < w.heap.size := by
        obtain ⟨z, h1⟩ := each 0 (by omega)
        exact lt_of_cell h1
      have hall : ∀ (n o : Nat), (∀ i, i < n → ∃ z : Int, w.cell? ⟨b, o + i, none⟩ = some (.int .i64 z)) → ∃ zs : List Int, zs.length = n ∧ ∀ (j : Nat) (z : Int), zs[j]? = some z → w.cell? ⟨b, o + j, none⟩ = some (.int .i64 z) := by
        intro n
        induction n with
        | zero => intro o _; exact ⟨[], rfl, by simp⟩
        | succ n ih =>
          intro o h
          obtain ⟨z, hz⟩ := h 0 (by omega)
          obtain ⟨zs, hl, hr⟩ := ih (o + 1) (fun i hi => by
            obtain ⟨y, hy⟩ := h (i + 1) (by omega)
            exact ⟨y, by rw [show o + 1 + i = o + (i + 1) from by omega]; exact hy⟩)
          refine ⟨z :: zs, by simp [hl], fun j y hj => ?_⟩
          cases j with
          | zero => simp at hj; subst hj; exact hz
          | succ j => rw [show o + (j + 1) = o + 1 + j from by omega]; exact hr j y (by simpa using hj)
      obtain ⟨zs, hl, hr⟩ := hall (len + 1) o each
      exact ⟨zs, some ⟨b, o, none⟩, cap, by rw [hl], ⟨by omega, hcm, .inr ⟨b, o, rfl, hlt, hr⟩⟩⟩

/-- A nil slice has no capacity. -/
theorem is_nil {v : Value} {d : DataW H} {p : List MemPlace} (h : DataW.Trod enc Try.prog w 0 sp hd 35 v d p) {a : Option Addr} {l c : Nat} (e : v = .slice a l c) : a = none → c = 0 := by
  subst e
  rintro rfl
  obtain ⟨n, hn⟩ := h
  rcases DataW.trod_slice Try.underlying35 hn with ⟨e, _⟩ | ⟨a, len, cap, elems, rest, m, hm, e, _⟩
  · simp [Value.cells] at e; exact e.2
  · simp [Value.cells] at e

/-- An argument of type []int. -/
theorem open_is {r : Reach} {b0 : Nat} {v : Value} {d : DataW H} {p : List MemPlace} (hv : Value.okWide Try.prog w r b0 35 v) (h : DataW.Trod enc Try.prog w 0 sp hd 35 v d p) :
    ∃ (zs : List Int) (a : Option Addr) (c : Nat), v = .slice a zs.length c ∧ IsIs w.heap.size w zs a c := by
  obtain ⟨a, len, cap, rfl⟩ := okWide_slice Try.underlying35 hv
  obtain ⟨n, hn⟩ := h
  obtain ⟨zs, a', c, e, hA⟩ := trod_is hn
  simp [Value.cells] at e
  obtain ⟨rfl, rfl, rfl⟩ := e
  exact ⟨zs, a, cap, rfl, hA⟩
end

end Go.Proofs.Ytbfanbaijombaaa

/- Contract of At. -/
namespace Go.Proofs.Ytbfanbaijombaaa
set_option linter.unusedVariables false
set_option linter.unusedSimpArgs false
open Go.RowKit

def AtPost (n₀ : Nat) (t : T) (p : List Int) (w : World) (e : Ending) (w' : World) : Prop :=
  (∃ s a c, t.at p = some s ∧ e = .returned (.tuple #[tm s.head a s.args.length c, .bool true]) ∧ (Lit.int .i64 s.head).wf = true ∧ IsArgs n₀ w' s.args a c ∧ Below w.heap.size w w') ∨
  (t.at p = none ∧ e = .returned (.tuple #[tm 0 none 0 0, .bool false]) ∧ Below w.heap.size w w')

def AtI (n₀ : Nat) (t : T) (p : List Int) (w w2 : World) (i : Value) (wr : World) : Prop :=
  ∃ (k : Nat) (s : T) (a : Option Addr) (c : Nat), k ≤ p.length ∧ i = .int .i64 k ∧ t.at (p.take k) = some s ∧ (Lit.int .i64 s.head).wf = true ∧ wr.heap[w.heap.size]? = some (.cells #[.int .i64 s.head, .slice a s.args.length c] 25 (0, 0)) ∧ IsArgs n₀ wr s.args a c ∧ Below w.heap.size w wr ∧ wr.heap[w.heap.size + 1]? = w2.heap[w.heap.size + 1]? ∧ wr.heap.size = w.heap.size + 2

set_option maxRecDepth 100000 in
set_option maxHeartbeats 2000000 in
theorem at_any (t : T) (p : List Int) (n₀ : Nat) (a : Option Addr) (c : Nat) (ap : Option Addr) (cp : Nat) (w : World) (hn : n₀ ≤ w.heap.size) (hwf : (Lit.int .i64 t.head).wf = true) (hA : IsArgs n₀ w t.args a c) (hP : IsIs n₀ w p ap cp) :
    Calls Try.prog 17 #[tm t.head a t.args.length c, .slice ap p.length cp] w (AtPost n₀ t p w) := by
  have HWF := Lib.hid hwf
  have HA := Lib.hid hA
  have HP := Lib.hid hP
  have hpl : p.length ≤ cp ∧ cp ≤ maxLen := ⟨hP.1, hP.2.1⟩
  unfold maxLen at hpl
  obtain ⟨hp1, hp2⟩ := hpl
  clear hwf hA hP
  go_enter Try.func17, Try.ntmps17
  go_wp2
  have hst : AtI n₀ t p w ((w.alloc (tmCells t.head a t.args.length c)).alloc (tmCells 0 none 0 0)) (.int .i64 ((0 : Nat) : Int)) ((w.alloc (tmCells t.head a t.args.length c)).alloc (tmCells 0 none 0 0)) := by
    have hbl : Below w.heap.size w ((w.alloc (tmCells t.head a t.args.length c)).alloc (tmCells 0 none 0 0)) := ((Below.refl _ w).alloc (Nat.le_refl _) _).alloc (by simp) _
    refine ⟨0, t, a, c, Nat.zero_le _, rfl, by simp [T.at], HWF.out, ?_, HA.out.below (hbl.mono hn), hbl, rfl, by simp⟩
    rw [Below.heap_alloc _ _ _ (by simp)]
    exact heap_alloc_new _ _
  have hres : ((w.alloc (tmCells t.head a t.args.length c)).alloc (tmCells 0 none 0 0)).heap[w.heap.size + 1]? = some (.cells #[.int .i64 0, .slice none 0 0] 25 (0, 0)) := by
    have := heap_alloc_new (w.alloc (tmCells t.head a t.args.length c)) (tmCells 0 none 0 0)
    simpa using this
  generalize (w.alloc (tmCells t.head a t.args.length c)).alloc (tmCells 0 none 0 0) = w2 at hst hres ⊢
  have HST := Lib.hid hst
  have HRES := Lib.hid hres
  clear hst hres
  go_loopw [10] (fun i wr => AtI n₀ t p w w2 i wr) (fun i _ => p.length - (intOf i).toNat)
  case atStart => exact HST.out
  case round =>
    clear HST
    obtain ⟨k, s, a', c', hk, rfl, hat, hswf, hbox, hA', hbl, hrs, hsz⟩ := hrel
    have hrs' := hrs.trans HRES.out
    have b0 : wr.cell? ⟨w.heap.size, 0, none⟩ = some (.int .i64 s.head) := by simp [World.cell?, hbox]
    have b1 : wr.cell? ⟨w.heap.size, 1, none⟩ = some (.slice a' s.args.length c') := by simp [World.cell?, hbox]
    have bf0 : wr.frozen? ⟨w.heap.size, 0, none⟩ = false := by simp [World.frozen?, hbox]
    have bf1 : wr.frozen? ⟨w.heap.size, 1, none⟩ = false := by simp [World.frozen?, hbox]
    have r0 : wr.cell? ⟨w.heap.size + 1, 0, none⟩ = some (.int .i64 0) := by simp [World.cell?, hrs']
    have r1 : wr.cell? ⟨w.heap.size + 1, 1, none⟩ = some (.slice none 0 0) := by simp [World.cell?, hrs']
    have rf0 : wr.frozen? ⟨w.heap.size + 1, 0, none⟩ = false := by simp [World.frozen?, hrs']
    have rf1 : wr.frozen? ⟨w.heap.size + 1, 1, none⟩ = false := by simp [World.frozen?, hrs']
    have HAT := Lib.hid hat
    have HSW := Lib.hid hswf
    have HBOX := Lib.hid hbox
    have HA' := Lib.hid hA'
    have HBL := Lib.hid hbl
    have HRS := Lib.hid hrs
    have HSZ := Lib.hid hsz
    have hlc : s.args.length ≤ c' ∧ c' ≤ maxLen := ⟨hA'.1, hA'.2.1⟩
    unfold maxLen at hlc
    obtain ⟨hl1, hl2⟩ := hlc
    clear hat hswf hbox hA' hbl hrs hrs' hsz
    by_cases hlt : k < p.length
    · obtain ⟨bp, op, z, rfl, hbp, hz, hcz⟩ := (HP.out.below (HBL.out.mono hn)).elem hlt
      have HZ := Lib.hid hz
      clear hz
      by_cases hneg : z < 0
      · clear hcz b1 b0 bf0 bf1
        have hcz := (HP.out.below (HBL.out.mono hn)).elem hlt
        obtain ⟨bp', op', z', e1, _, hz', hcz⟩ := hcz
        cases e1
        have e2 := HZ.out
        rw [hz'] at e2
        obtain rfl := Option.some.inj e2
        clear e2 hz'
        go_wp2
        refine bodyPost_ret (v := .tuple #[tm 0 none 0 0, .bool false]) (by simp [results, Try.results17, go_sem, r0, r1]) rfl (.inr ⟨T.at_none HAT.out HZ.out (T.at_one_none (.inl hneg)), rfl, ?_⟩)
        exact (HBL.out.setCell (p := ⟨w.heap.size + 1, 0, none⟩) (by simp) _).setCell (p := ⟨w.heap.size + 1, 1, none⟩) (by simp) _
      · by_cases hbig : (s.args.length : Int) ≤ z
        · go_wp2
          refine bodyPost_ret (v := .tuple #[tm 0 none 0 0, .bool false]) (by simp [results, Try.results17, go_sem, r0, r1]) rfl (.inr ⟨T.at_none HAT.out HZ.out (T.at_one_none (.inr hbig)), rfl, ?_⟩)
          exact (HBL.out.setCell (p := ⟨w.heap.size + 1, 0, none⟩) (by simp) _).setCell (p := ⟨w.heap.size + 1, 1, none⟩) (by simp) _
        · obtain ⟨n, rfl⟩ : ∃ n : Nat, z = (n : Int) := ⟨z.toNat, by omega⟩
          have hns : n < s.args.length := by omega
          obtain ⟨b, o, x, a2, c2, rfl, hbn, hx, hxw, hc1, hc2, hA2⟩ := HA'.out.elem (i := n) hns
          have HX := Lib.hid hx
          have HXW := Lib.hid hxw
          have HA2 := Lib.hid hA2
          clear hx hxw hA2
          go_wp2
          go_roundw
          case rel =>
            refine ⟨k + 1, x, a2, c2, by omega, by go_num, ?_, HXW.out, ?_, ?_, ?_, ?_, ?_⟩
            · rw [T.at_take HAT.out HZ.out]; exact T.at_one (by omega) (by omega) (by simpa using HX.out)
            · rw [heap_setCell_same (heap_setCell_same HBOX.out _)]; rfl
            · exact HA2.out.below (((Below.refl n₀ wr).setCell (p := ⟨w.heap.size, 0, none⟩) hn _).setCell (p := ⟨w.heap.size, 1, none⟩) hn _)
            · exact (HBL.out.setCell (p := ⟨w.heap.size, 0, none⟩) (Nat.le_refl _) _).setCell (p := ⟨w.heap.size, 1, none⟩) (Nat.le_refl _) _
            · rw [Below.heap_setCell _ _ _ _ (by simp), Below.heap_setCell _ _ _ _ (by simp)]; exact HRS.out
            · simpa using HSZ.out
          case measure => simp [intOf]; omega
    · obtain rfl : k = p.length := by omega
      have hat := HAT.out
      rw [List.take_length] at hat
      go_wp2
      refine bodyPost_ret (v := .tuple #[tm s.head a' s.args.length c', .bool true]) (by simp [results, Try.results17, go_sem, r0, r1]) rfl (.inl ⟨s, a', c', hat, rfl, HSW.out, ?_, ?_⟩)
      · exact HA'.out.below (((Below.refl n₀ wr).setCell (p := ⟨w.heap.size + 1, 0, none⟩) (by simp; omega) _).setCell (p := ⟨w.heap.size + 1, 1, none⟩) (by simp; omega) _)
      · exact (HBL.out.setCell (p := ⟨w.heap.size + 1, 0, none⟩) (by simp) _).setCell (p := ⟨w.heap.size + 1, 1, none⟩) (by simp) _

end Go.Proofs.Ytbfanbaijombaaa
