/- The walk of KboCompares. -/
import Derived.Test.YtbfanbaijombaaaR8c
import Derived.Test.YtbfanbaijombaaaQ1p
namespace Go.Proofs.Ytbfanbaijombaaa
set_option linter.unusedVariables false
set_option linter.unusedSimpArgs false
open Go.RowKit

set_option maxRecDepth 100000 in
set_option maxHeartbeats 8000000 in
theorem kboCompares_walk (g : Sg) (a b : T) (ga : Option Addr) (gc : Nat) (pa : Option Addr) (ca : Nat) (pb : Option Addr) (cb : Nat) (w : World) (haw : (Lit.int .i64 a.head).wf = true) (hbw : (Lit.int .i64 b.head).wf = true)
    (hG : IsSg w.heap.size w g ga gc) (hA : IsArgs w.heap.size w a.args pa ca) (hB : IsArgs w.heap.size w b.args pb cb) :
    Calls Try.prog 3 #[.slice ga g.length gc, tm a.head pa a.args.length ca, tm b.head pb b.args.length cb] w fun e w' => e = .returned (.bool true) ∧ Below w.heap.size w w' := by
  have HAW := Lib.hid haw
  have HBW := Lib.hid hbw
  have CA := Lib.hid awake8_any
  have d0 := (((((Later.below (Below.refl _ w)).and (later_sg hG)).and (later_args hB)).and (later_args hA)).push (Below.refl _ _) a.head pa a.args.length ca).push (Below.refl _ _) b.head pb b.args.length cb
  simp only [heap_alloc_size] at d0
  have D := Lib.hid d0
  clear haw hbw hG hA hB d0
  go_enter Try.func3, Try.ntmps3
  go_wp2_with fail
  have hsz : ((w.alloc (tmCells a.head pa a.args.length ca)).alloc (tmCells b.head pb b.args.length cb)).heap.size = w.heap.size + 1 + 1 := by simp
  generalize (w.alloc (tmCells a.head pa a.args.length ca)).alloc (tmCells b.head pb b.args.length cb) = wB at D hsz ⊢
  have d1 := D.out.pushC (Below.refl _ _) #[.int .i64 a.head, .slice pa a.args.length ca, .int .i64 b.head, .slice pb b.args.length cb] 25
  rw [hsz] at d1
  have D1 := Lib.hid d1
  clear d1 hsz D
  generalize wB.alloc (.cells #[.int .i64 a.head, .slice pa a.args.length ca, .int .i64 b.head, .slice pb b.args.length cb] 25) = w1 at D1 ⊢
  generalize hb0 : w.heap.size = b0 at D1 ⊢
  have HB0 := Lib.hid hb0
  clear hb0
  refine (few8_any g [a, b] w1.heap.size ga gc _ 2 w1 (Nat.le_refl _) D1.out.now.2.2.2.2.2.1 (row_of2 D1.out.now.1 HAW.out HBW.out D1.out.now.2.2.2.1 D1.out.now.2.2.2.2.1)).mono ?_
  rintro e w2 ⟨f1, rfl, hfew, hb⟩
  have D2 := Lib.hid (show Later _ _ from fun X hX => (D1.out.mv hb X hX).2)
  clear hb D1
  cases f1
  case false =>
    have HQ := Lib.hid D2.out.now.2.2.2.2.2
    clear D2 hfew
    go_wp2
    go_ret
    exact ⟨rfl, by rw [HB0.out]; exact HQ.out⟩
  have hsum := hfew rfl
  simp only [T.sizes] at hsum
  have hza : a.size ≤ 1000000000000 := by omega
  have hzb : b.size ≤ 1000000000000 := by omega
  clear hfew hsum
  obtain ⟨⟨y0, y1⟩, ⟨x0, x1⟩, _⟩ := D2.out.now
  go_wp2_with fail
  clear y0 y1 x0 x1
  refine (kCompare_any g a b hza hzb w2.heap.size ga gc pa ca pb cb w2 (Nat.le_refl _) D2.out.now.2.2.2.2.1 HAW.out HBW.out D2.out.now.2.2.1 D2.out.now.2.2.2.1).mono ?_
  rw [cmpV_eq]
  rintro e w3 ⟨rfl, hb⟩
  have D3 := Lib.hid (D2.out.mv hb)
  clear hb D2
  obtain ⟨⟨y0, y1⟩, ⟨x0, x1⟩, _⟩ := D3.out.now
  go_wp2_with fail
  clear y0 y1 x0 x1
  refine (rCompare_any g a b hza hzb w3.heap.size ga gc pa ca pb cb w3 (Nat.le_refl _) D3.out.now.2.2.2.2.1 HAW.out HBW.out D3.out.now.2.2.1 D3.out.now.2.2.2.1).mono ?_
  rw [cmpV_eq]
  rintro e w4 ⟨rfl, hb⟩
  have D4 := Lib.hid (D3.out.mv hb)
  clear hb D3
  obtain ⟨⟨y0, y1⟩, ⟨x0, x1⟩, _⟩ := D4.out.now
  go_wp2_with fail
  clear y0 y1 x0 x1
  refine (kCompare_any g b a hzb hza w4.heap.size ga gc pb cb pa ca w4 (Nat.le_refl _) D4.out.now.2.2.2.2.1 HBW.out HAW.out D4.out.now.2.2.2.1 D4.out.now.2.2.1).mono ?_
  rw [cmpV_eq]
  rintro e w5 ⟨rfl, hb⟩
  have D5 := Lib.hid (D4.out.mv hb)
  clear hb D4
  obtain ⟨⟨y0, y1⟩, ⟨x0, x1⟩, _⟩ := D5.out.now
  go_wp2_with fail
  clear y0 y1 x0 x1
  refine (rCompare_any g b a hzb hza w5.heap.size ga gc pb cb pa ca w5 (Nat.le_refl _) D5.out.now.2.2.2.2.1 HBW.out HAW.out D5.out.now.2.2.2.1 D5.out.now.2.2.1).mono ?_
  rw [cmpV_eq]
  rintro e w6 ⟨rfl, hb⟩
  have D6 := Lib.hid (D5.out.mv hb)
  clear hb D5
  generalize cmR g a b = x
  generalize cmR g b a = y
  generalize errF g [a, b] = e1
  generalize errF g [b, a] = e2
  go_wp2_with fail
  refine (CA.out _).mono ?_
  rintro e w7 ⟨rfl, hb⟩
  have HQ := Lib.hid (D6.out _ hb).2.2.2.2.2
  clear hb D6
  go_wp2
  go_ret
  exact ⟨by simp, by rw [HB0.out]; exact HQ.out⟩

end Go.Proofs.Ytbfanbaijombaaa
