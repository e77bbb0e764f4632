/- The example of the statements of layer 2. -/
import Derived.Test.YtdigccbffphilaaUnd
import Derived.Test.YtdigccbffphilaaAll
import Derived.Test.YtdigccbffphilaaPut
namespace Go.Proofs.Ytdigccbffphilaa
set_option linter.unusedVariables false
set_option linter.unusedSimpArgs false
open Go.RowKit

def T2 : T := .node 4 [.node 1 [], .node 3 [.node 2 []]]

theorem awake2_mem {w2 w3 w4 : World} (b3 : Below (w2.alloc (.cells #[.int .i64 2, .slice none 0 0] 24)).heap.size (w2.alloc (.cells #[.int .i64 2, .slice none 0 0] 24)) w3)
    (b4 : Below (w3.alloc (.cells #[.int .i64 1, .slice none 0 0, .int .i64 3, .slice (some ⟨w2.heap.size, 0, none⟩) 1 1] 24)).heap.size (w3.alloc (.cells #[.int .i64 1, .slice none 0 0, .int .i64 3, .slice (some ⟨w2.heap.size, 0, none⟩) 1 1] 24)) w4) :
    IsArgs w4.heap.size w4 T2.args (some ⟨w3.heap.size, 0, none⟩) 2 := by
  have s3 : w2.heap.size + 1 ≤ w3.heap.size := by have := b3.size; simpa using this
  have s4 : w3.heap.size + 1 ≤ w4.heap.size := by have := b4.size; simpa using this
  have c2 : ∀ i, w4.cell? ⟨w3.heap.size, i, none⟩ = (#[Value.int .i64 1, .slice none 0 0, .int .i64 3, .slice (some ⟨w2.heap.size, 0, none⟩) 1 1] : Array Value)[i]? := fun i => (b4.cell (p := ⟨w3.heap.size, i, none⟩) (by simp)).trans (by simp)
  have c1 : ∀ i, w4.cell? ⟨w2.heap.size, i, none⟩ = (#[Value.int .i64 2, .slice none 0 0] : Array Value)[i]? := fun i =>
    (b4.cell (p := ⟨w2.heap.size, i, none⟩) (by simp; omega)).trans ((World.cell?_of_block (a := ⟨w2.heap.size, i, none⟩) (Below.heap_alloc _ _ _ (by simp; omega))).trans ((b3.cell (p := ⟨w2.heap.size, i, none⟩) (by simp)).trans (by simp)))
  refine ⟨by simp [T2, T.args], by simp [maxLen], .inr ⟨_, _, rfl, by omega, ?_⟩⟩
  simp only [T2, T.args, IsRow, IsT, and_true]
  refine ⟨⟨by decide, by rw [c2]; rfl, none, 0, by rw [c2]; rfl, by simp, by simp [maxLen], .inl trivial⟩, ⟨by decide, by rw [c2]; rfl, some ⟨w2.heap.size, 0, none⟩, 1, by rw [c2]; rfl, by simp, by simp [maxLen], .inr ⟨_, _, rfl, by omega, ?_⟩⟩⟩
  exact ⟨by decide, by rw [c1]; rfl, none, 0, by rw [c1]; rfl, by simp, by simp [maxLen], .inl trivial⟩

theorem isIs_new1 (w : World) (z : Int) : IsIs (w.alloc (.cells #[.int .i64 z] 3)).heap.size (w.alloc (.cells #[.int .i64 z] 3)) [z] (some ⟨w.heap.size, 0, none⟩) 1 := by
  refine ⟨by simp, by simp [maxLen], .inr ⟨_, _, rfl, by simp, fun j y hy => ?_⟩⟩
  match j, hy with
  | 0, hy => simp at hy; subst hy; simp
  | j + 1, hy => simp at hy
theorem isIs_new2 (w : World) (z y : Int) : IsIs (w.alloc (.cells #[.int .i64 z, .int .i64 y] 3)).heap.size (w.alloc (.cells #[.int .i64 z, .int .i64 y] 3)) [z, y] (some ⟨w.heap.size, 0, none⟩) 2 := by
  refine ⟨by simp, by simp [maxLen], .inr ⟨_, _, rfl, by simp, fun j x hx => ?_⟩⟩
  match j, hx with
  | 0, hx => simp at hx; subst hx; simp
  | 1, hx => simp at hx; subst hx; simp
  | j + 2, hx => simp at hx

theorem lists_new (w : World) : IsLs ((((w.alloc (.cells #[.int .i64 0] 3)).alloc (.cells #[.int .i64 1] 3)).alloc (.cells #[.int .i64 1, .int .i64 0] 3)).alloc (.cells #[.slice none 0 0, .slice (some ⟨w.heap.size, 0, none⟩) 1 1, .slice (some ⟨w.heap.size + 1, 0, none⟩) 1 1, .slice (some ⟨w.heap.size + 1 + 1, 0, none⟩) 2 2] 25)).heap.size
    ((((w.alloc (.cells #[.int .i64 0] 3)).alloc (.cells #[.int .i64 1] 3)).alloc (.cells #[.int .i64 1, .int .i64 0] 3)).alloc (.cells #[.slice none 0 0, .slice (some ⟨w.heap.size, 0, none⟩) 1 1, .slice (some ⟨w.heap.size + 1, 0, none⟩) 1 1, .slice (some ⟨w.heap.size + 1 + 1, 0, none⟩) 2 2] 25)) [[], [0], [1], [1, 0]] (some ⟨w.heap.size + 1 + 1 + 1, 0, none⟩) 4 := by
  have h1 := isIs_new1 w 0
  have h2 := isIs_new1 (w.alloc (.cells #[.int .i64 0] 3)) 1
  have h3 := isIs_new2 ((w.alloc (.cells #[.int .i64 0] 3)).alloc (.cells #[.int .i64 1] 3)) 1 0
  simp only [World.size_alloc] at h1 h2 h3
  have hk : ∀ b, b < w.heap.size + 1 + 1 + 1 → ((((w.alloc (.cells #[.int .i64 0] 3)).alloc (.cells #[.int .i64 1] 3)).alloc (.cells #[.int .i64 1, .int .i64 0] 3)).alloc (.cells #[.slice none 0 0, .slice (some ⟨w.heap.size, 0, none⟩) 1 1, .slice (some ⟨w.heap.size + 1, 0, none⟩) 1 1, .slice (some ⟨w.heap.size + 1 + 1, 0, none⟩) 2 2] 25)).heap[b]? = (((w.alloc (.cells #[.int .i64 0] 3)).alloc (.cells #[.int .i64 1] 3)).alloc (.cells #[.int .i64 1, .int .i64 0] 3)).heap[b]? := fun b hb => Below.heap_alloc _ _ _ (by simp; omega)
  have hnew := heap_alloc_new (((w.alloc (.cells #[.int .i64 0] 3)).alloc (.cells #[.int .i64 1] 3)).alloc (.cells #[.int .i64 1, .int .i64 0] 3)) (.cells #[.slice none 0 0, .slice (some ⟨w.heap.size, 0, none⟩) 1 1, .slice (some ⟨w.heap.size + 1, 0, none⟩) 1 1, .slice (some ⟨w.heap.size + 1 + 1, 0, none⟩) 2 2] 25)
  simp only [World.size_alloc] at hnew
  have hc : ∀ i, ((((w.alloc (.cells #[.int .i64 0] 3)).alloc (.cells #[.int .i64 1] 3)).alloc (.cells #[.int .i64 1, .int .i64 0] 3)).alloc (.cells #[.slice none 0 0, .slice (some ⟨w.heap.size, 0, none⟩) 1 1, .slice (some ⟨w.heap.size + 1, 0, none⟩) 1 1, .slice (some ⟨w.heap.size + 1 + 1, 0, none⟩) 2 2] 25)).cell? ⟨w.heap.size + 1 + 1 + 1, i, none⟩ = (#[Value.slice none 0 0, .slice (some ⟨w.heap.size, 0, none⟩) 1 1, .slice (some ⟨w.heap.size + 1, 0, none⟩) 1 1, .slice (some ⟨w.heap.size + 1 + 1, 0, none⟩) 2 2] : Array Value)[i]? := fun i => by
    simp only [World.cell?, hnew]; rfl
  have hsz : ((((w.alloc (.cells #[.int .i64 0] 3)).alloc (.cells #[.int .i64 1] 3)).alloc (.cells #[.int .i64 1, .int .i64 0] 3)).alloc (.cells #[.slice none 0 0, .slice (some ⟨w.heap.size, 0, none⟩) 1 1, .slice (some ⟨w.heap.size + 1, 0, none⟩) 1 1, .slice (some ⟨w.heap.size + 1 + 1, 0, none⟩) 2 2] 25)).heap.size = w.heap.size + 1 + 1 + 1 + 1 := by simp
  have hk1 : ∀ b, b < w.heap.size + 1 → (((w.alloc (.cells #[.int .i64 0] 3)).alloc (.cells #[.int .i64 1] 3)).alloc (.cells #[.int .i64 1, .int .i64 0] 3)).heap[b]? = (w.alloc (.cells #[.int .i64 0] 3)).heap[b]? := fun b hb => by rw [Below.heap_alloc _ _ _ (by simp; omega), Below.heap_alloc _ _ _ (by simp; omega)]
  have hk2 : ∀ b, b < w.heap.size + 1 + 1 → (((w.alloc (.cells #[.int .i64 0] 3)).alloc (.cells #[.int .i64 1] 3)).alloc (.cells #[.int .i64 1, .int .i64 0] 3)).heap[b]? = ((w.alloc (.cells #[.int .i64 0] 3)).alloc (.cells #[.int .i64 1] 3)).heap[b]? := fun b hb => Below.heap_alloc _ _ _ (by simp; omega)
  rw [hsz]
  generalize (((w.alloc (.cells #[.int .i64 0] 3)).alloc (.cells #[.int .i64 1] 3)).alloc (.cells #[.int .i64 1, .int .i64 0] 3)).alloc (.cells #[.slice none 0 0, .slice (some ⟨w.heap.size, 0, none⟩) 1 1, .slice (some ⟨w.heap.size + 1, 0, none⟩) 1 1, .slice (some ⟨w.heap.size + 1 + 1, 0, none⟩) 2 2] 25) = W at hk hc ⊢
  refine ⟨by simp, by simp [maxLen], .inr ⟨_, _, rfl, by omega, fun j zs hj => ?_⟩⟩
  match j, hj with
  | 0, hj => simp at hj; subst hj; exact ⟨none, 0, by rw [hc]; rfl, by simp, by simp [maxLen], .inl rfl⟩
  | 1, hj => simp at hj; subst hj; exact ⟨_, 1, by rw [hc]; rfl, h1.keep (fun b hb => (hk b (by omega)).trans (hk1 b hb)) (by omega)⟩
  | 2, hj => simp at hj; subst hj; exact ⟨_, 1, by rw [hc]; rfl, h2.keep (fun b hb => (hk b (by omega)).trans (hk2 b hb)) (by omega)⟩
  | 3, hj => simp at hj; subst hj; exact ⟨_, 2, by rw [hc]; rfl, h3.keep (fun b hb => hk b hb) (by omega)⟩
  | j + 4, hj => simp at hj

set_option maxRecDepth 100000 in
set_option maxHeartbeats 2000000 in
theorem awake2_any (w : World) : Calls Try.prog 16 #[] w fun e w' => e = .returned (.bool true) ∧ Below w.heap.size w w' := by
  go_enter Try.func16, Try.ntmps16
  go_wp2_with fail
  refine (fun_any 1 _ _ _ _).mono ?_
  rintro e w1 ⟨rfl, hb1⟩
  have B1 := Lib.hid hb1
  clear hb1
  go_wp2_with fail
  refine (fun_any 2 _ _ _ _).mono ?_
  rintro e w2 ⟨rfl, hb2⟩
  have B2 := Lib.hid (B1.out.trans (hb2.mono B1.out.size))
  clear hb2 B1
  go_wp2_with fail
  refine (fun_any 3 _ _ _ _).mono ?_
  rintro e w3 ⟨rfl, hb3⟩
  have B3 := Lib.hid hb3
  clear hb3
  go_wp2_with fail
  refine (fun_any 4 _ _ _ _).mono ?_
  rintro e w4 ⟨rfl, hb4⟩
  have B4 := Lib.hid hb4
  clear hb4
  go_wp2_with fail
  have hm := awake2_mem B3.out B4.out
  have hb5 : Below w4.heap.size w4 (w4.alloc (.cells #[.int .i64 4, .slice (some ⟨w3.heap.size, 0, none⟩) 2 2] 24)) := (Below.refl _ _).alloc (Nat.le_refl _) _
  have hw5 : Below w.heap.size w (w4.alloc (.cells #[.int .i64 4, .slice (some ⟨w3.heap.size, 0, none⟩) 2 2] 24)) := by
    have e3 := B3.out.size
    have e4 := B4.out.size
    have e2 := B2.out.size
    simp at e3 e4
    exact (((((B2.out.alloc e2 _).trans (B3.out.mono (by simp; omega))).alloc (by omega) _).trans (B4.out.mono (by simp; omega))).alloc (by omega) _)
  have hb6 : Below (w4.alloc (.cells #[.int .i64 4, .slice (some ⟨w3.heap.size, 0, none⟩) 2 2] 24)).heap.size (w4.alloc (.cells #[.int .i64 4, .slice (some ⟨w3.heap.size, 0, none⟩) 2 2] 24)) ((w4.alloc (.cells #[.int .i64 4, .slice (some ⟨w3.heap.size, 0, none⟩) 2 2] 24)).alloc (.cells #[.int .i64 1, .int .i64 0] 3)) := (Below.refl _ _).alloc (Nat.le_refl _) _
  have t1 : ((w4.alloc (.cells #[.int .i64 4, .slice (some ⟨w3.heap.size, 0, none⟩) 2 2] 24)).alloc (.cells #[.int .i64 1, .int .i64 0] 3)).cell? ⟨w4.heap.size, 0, none⟩ = some (.int .i64 4) := by simp [go_sem]
  have t2 : ((w4.alloc (.cells #[.int .i64 4, .slice (some ⟨w3.heap.size, 0, none⟩) 2 2] 24)).alloc (.cells #[.int .i64 1, .int .i64 0] 3)).cell? ⟨w4.heap.size, 1, none⟩ = some (.slice (some ⟨w3.heap.size, 0, none⟩) 2 2) := by simp [go_sem]
  have hlt : w4.heap.size < ((w4.alloc (.cells #[.int .i64 4, .slice (some ⟨w3.heap.size, 0, none⟩) 2 2] 24)).alloc (.cells #[.int .i64 1, .int .i64 0] 3)).heap.size := by simp; omega
  have hm6 : IsArgs ((w4.alloc (.cells #[.int .i64 4, .slice (some ⟨w3.heap.size, 0, none⟩) 2 2] 24)).alloc (.cells #[.int .i64 1, .int .i64 0] 3)).heap.size ((w4.alloc (.cells #[.int .i64 4, .slice (some ⟨w3.heap.size, 0, none⟩) 2 2] 24)).alloc (.cells #[.int .i64 1, .int .i64 0] 3)) T2.args (some ⟨w3.heap.size, 0, none⟩) 2 := ((hm.below hb5).below (hb6.mono hb5.size)).mono (by simp; omega)
  have hI6 := isIs_new2 (w4.alloc (.cells #[.int .i64 4, .slice (some ⟨w3.heap.size, 0, none⟩) 2 2] 24)) 1 0
  rw [show (w4.alloc (.cells #[.int .i64 4, .slice (some ⟨w3.heap.size, 0, none⟩) 2 2] 24)).heap.size = w4.heap.size + 1 from by simp] at hI6
  have hw6 := hw5.trans (hb6.mono hw5.size)
  clear hb5 hb6 hw5 hm
  generalize ((w4.alloc (.cells #[.int .i64 4, .slice (some ⟨w3.heap.size, 0, none⟩) 2 2] 24)).alloc (.cells #[.int .i64 1, .int .i64 0] 3)) = w6 at t1 t2 hlt hm6 hI6 hw6 ⊢
  generalize w4.heap.size = bt at t1 t2 hlt hI6 ⊢
  generalize w3.heap.size = b2 at *
  clear B3 B4 B2
  have M6 := Lib.hid hm6
  have W6 := Lib.hid hw6
  have E6 := Lib.hid (show ∀ W, Below w6.heap.size w6 W → W.cell? ⟨bt, 0, none⟩ = some (.int .i64 4) ∧ W.cell? ⟨bt, 1, none⟩ = some (.slice (some ⟨b2, 0, none⟩) 2 2) from fun W hW => ⟨(hW.cell (p := ⟨bt, 0, none⟩) hlt).trans t1, (hW.cell (p := ⟨bt, 1, none⟩) hlt).trans t2⟩)
  refine (at_any T2 [1, 0] w6.heap.size (some ⟨b2, 0, none⟩) 2 (some ⟨bt + 1, 0, none⟩) 2 w6 (Nat.le_refl _) (by decide) hm6 hI6).mono ?_
  clear hm6 hI6 hw6 t1 t2
  have hat : T2.at [1, 0] = some (.node 2 []) := by simp [T2, T.at, T.args]
  rintro e w7 (⟨s7, a7, c7, hs7, rfl, hw7, hA7, hb7⟩ | ⟨hno, _⟩)
  case inr => rw [hat] at hno; cases hno
  rw [hat] at hs7
  obtain rfl := Option.some.inj hs7
  clear hs7 hat hw7
  dsimp only [T.head, T.args, List.length_nil] at hA7 ⊢
  have hb8 : Below w6.heap.size w6 ((w7.alloc (.cells #[.int .i64 2, .slice a7 0 c7] 24)).alloc (.cells #[.int .i64 0] 3)) := (hb7.alloc hb7.size _).alloc (by have := hb7.size; simp; omega) _
  have u1 : ((w7.alloc (.cells #[.int .i64 2, .slice a7 0 c7] 24)).alloc (.cells #[.int .i64 0] 3)).cell? ⟨w7.heap.size, 0, none⟩ = some (.int .i64 2) := by simp [go_sem]
  have u2 : ((w7.alloc (.cells #[.int .i64 2, .slice a7 0 c7] 24)).alloc (.cells #[.int .i64 0] 3)).cell? ⟨w7.heap.size, 1, none⟩ = some (.slice a7 0 c7) := by simp [go_sem]
  have hI8 := isIs_new1 (w7.alloc (.cells #[.int .i64 2, .slice a7 0 c7] 24)) 0
  rw [show (w7.alloc (.cells #[.int .i64 2, .slice a7 0 c7] 24)).heap.size = w7.heap.size + 1 from by simp] at hI8
  have hlu : w7.heap.size < ((w7.alloc (.cells #[.int .i64 2, .slice a7 0 c7] 24)).alloc (.cells #[.int .i64 0] 3)).heap.size := by simp; omega
  have v1 := (E6.out (w7.alloc (.cells #[.int .i64 2, .slice a7 0 c7] 24)) (hb7.alloc hb7.size _)).1
  have v2 := (E6.out (w7.alloc (.cells #[.int .i64 2, .slice a7 0 c7] 24)) (hb7.alloc hb7.size _)).2
  have hA7' : 0 ≤ c7 ∧ c7 ≤ maxLen := ⟨hA7.1, hA7.2.1⟩
  have HX := Lib.hid (And.intro hb8 (And.intro u1 (And.intro u2 (And.intro hI8 hlu))))
  clear hb8 hI8 hlu hA7 hb7 u1 u2
  go_wp2_with fail
  clear v1 v2
  generalize ((w7.alloc (.cells #[.int .i64 2, .slice a7 0 c7] 24)).alloc (.cells #[.int .i64 0] 3)) = w8 at HX ⊢
  generalize w7.heap.size = bu at HX ⊢
  obtain ⟨hb8, u1, u2, hI8, hlu⟩ := HX.out
  have hA7'' : IsArgs w8.heap.size w8 (T.node 2 []).args a7 c7 := ⟨by simp [T.args], hA7'.2, .inl rfl⟩
  refine (put_any T2 (by simp [T2, T.size, T.sizes]) [0] (.node 2 []) w8.heap.size (some ⟨b2, 0, none⟩) 2 (some ⟨bu + 1, 0, none⟩) 1 a7 c7 w8 (Nat.le_refl _) (by decide) ((M6.out.below hb8).mono hb8.size) hI8 (by decide) hA7'').mono ?_
  have hput : T2.put (.node 2 []) [0] = .node 4 [.node 2 [], .node 3 [.node 2 []]] := by simp [T2, T.put, T.args, T.head]
  have hat2 : T2.at [0] = some (.node 1 []) := by simp [T2, T.at, T.args]
  rintro e w9 (⟨s9, a9, c9, hs9, rfl, hw9, hA9, hb9⟩ | ⟨hno, _⟩)
  case inr => rw [hat2] at hno; cases hno
  rw [hput] at hw9 hA9 ⊢
  clear hw9 hs9 hat2 hput hA7'' hA7' hI8
  dsimp only [T.head, T.args, List.length_cons, List.length_nil, Nat.zero_add, Nat.reduceAdd] at hA9 ⊢
  obtain ⟨be, oe, te, ae, ce, rfl, hbe, hte, _, hce, _, _⟩ := hA9.elem (i := 0) (by simp)
  simp at hte
  subst hte
  simp only [T.head, Nat.zero_mul, Nat.add_zero] at hce
  have hc9 : c9 ≤ maxLen := hA9.2.1
  have hl9 : 2 ≤ c9 := by simpa using hA9.1
  unfold maxLen at hc9
  have hb10 : Below w6.heap.size w6 (w9.alloc (.cells #[.int .i64 4, .slice (some ⟨be, oe, none⟩) 2 c9] 24)) := (hb8.trans (hb9.mono hb8.size)).alloc (by have := hb8.size; have := hb9.size; omega) _
  have E10 := Lib.hid (show ∀ W, Below (w9.alloc (.cells #[.int .i64 4, .slice (some ⟨be, oe, none⟩) 2 c9] 24)).heap.size (w9.alloc (.cells #[.int .i64 4, .slice (some ⟨be, oe, none⟩) 2 c9] 24)) W →
      W.cell? ⟨bu, 0, none⟩ = some (.int .i64 2) ∧ W.cell? ⟨w9.heap.size, 1, none⟩ = some (.slice (some ⟨be, oe, none⟩) 2 c9) ∧ W.cell? ⟨be, oe, none⟩ = some (.int .i64 2) ∧ Below w6.heap.size w6 W from fun W hW => by
    have h9 := hb9.size
    refine ⟨?_, ?_, ?_, hb10.trans (hW.mono hb10.size)⟩
    · exact (hW.cell (p := ⟨bu, 0, none⟩) (by simp; omega)).trans ((World.cell?_of_block (a := ⟨bu, 0, none⟩) (Below.heap_alloc _ _ _ (by simp; omega))).trans ((hb9.cell (p := ⟨bu, 0, none⟩) hlu).trans u1))
    · exact (hW.cell (p := ⟨w9.heap.size, 1, none⟩) (by simp)).trans (by simp [go_sem])
    · exact (hW.cell (p := ⟨be, oe, none⟩) (by simp; omega)).trans ((World.cell?_of_block (a := ⟨be, oe, none⟩) (Below.heap_alloc _ _ _ hbe)).trans hce))
  have x1 := (E6.out _ hb10).1
  have x2 := (E6.out _ hb10).2
  have B10 := Lib.hid hb10
  clear hb10 hA9 hce hb9 hb8 u1 u2 HX hlu
  go_wp2_with fail
  clear x1 x2
  generalize w9.alloc (.cells #[.int .i64 4, .slice (some ⟨be, oe, none⟩) 2 c9] 24) = w10 at B10 E10 ⊢
  generalize w9.heap.size = bv at E10 ⊢
  refine (all_any T2 (by simp [T2, T.size, T.sizes]) w6.heap.size (some ⟨b2, 0, none⟩) 2 w10 B10.out.size (M6.out.below B10.out)).mono ?_
  have hal : T.allp [] T2 = [[], [0], [1], [1, 0]] := by simp [T2, T.allp, T.allps]
  rintro e w11 ⟨v, xs, rfl, hown, hps, hb11⟩
  rw [hal] at hown hps
  obtain ⟨a11, c11, rfl, hL⟩ := isLs_of_owns hown hps
  simp only [List.length_cons, List.length_nil, Nat.zero_add, Nat.reduceAdd] at *
  have hb12 : Below w11.heap.size w11 ((((w11.alloc (.cells #[.int .i64 0] 3)).alloc (.cells #[.int .i64 1] 3)).alloc (.cells #[.int .i64 1, .int .i64 0] 3)).alloc (.cells #[.slice none 0 0, .slice (some ⟨w11.heap.size, 0, none⟩) 1 1, .slice (some ⟨w11.heap.size + 1, 0, none⟩) 1 1, .slice (some ⟨w11.heap.size + 1 + 1, 0, none⟩) 2 2] 25)) := ((((Below.refl _ w11).alloc (Nat.le_refl _) _).alloc (by simp) _).alloc (by simp; omega) _).alloc (by simp; omega) _
  have hM := lists_new w11
  have HL := Lib.hid (hL.below hb12)
  have HM := Lib.hid hM
  have B11 := Lib.hid hb11
  have B12 := Lib.hid hb12
  clear hown hps hL hM hb11 hb12 hal
  go_wp2_with fail
  generalize ((((w11.alloc (.cells #[.int .i64 0] 3)).alloc (.cells #[.int .i64 1] 3)).alloc (.cells #[.int .i64 1, .int .i64 0] 3)).alloc (.cells #[.slice none 0 0, .slice (some ⟨w11.heap.size, 0, none⟩) 1 1, .slice (some ⟨w11.heap.size + 1, 0, none⟩) 1 1, .slice (some ⟨w11.heap.size + 1 + 1, 0, none⟩) 2 2] 25)) = w12 at HL HM B12 ⊢
  refine (same2_any [[], [0], [1], [1, 0]] [[], [0], [1], [1, 0]] w12.heap.size a11 c11 _ 4 w12 (Nat.le_refl _) (HL.out.keep (fun _ _ => rfl) B12.out.size) HM.out).mono ?_
  rintro e w13 ⟨rfl, hb13⟩
  have hq13 := B11.out.trans ((B12.out.trans (hb13.mono B12.out.size)).mono B11.out.size)
  obtain ⟨y1, y2, y3, y4⟩ := E10.out w13 hq13
  have HY := Lib.hid (W6.out.trans (y4.mono W6.out.size))
  clear hb13 hq13 y4 HL HM B12 B11 E10 E6 M6 W6
  rw [show decide (([[], [0], [1], [1, 0]] : List (List Int)) = [[], [0], [1], [1, 0]]) = true from by simp]
  go_wp2_with fail
  have hI14 := isIs_new1 w13 3
  refine (under_any [] [3] (w13.alloc (.cells #[.int .i64 3] 3)).heap.size none 0 _ 1 (w13.alloc (.cells #[.int .i64 3] 3)) (Nat.le_refl _) ⟨by simp, by simp [maxLen], .inl rfl⟩ hI14).mono ?_
  rintro e w15 ⟨rfl, hb15⟩
  have HB15 := Lib.hid ((HY.out.alloc HY.out.size _).trans (hb15.mono (by have := HY.out.size; simp; omega)))
  clear hb15 hI14 y1 y2 y3
  rw [show underB [] [3] = true from by simp [underB]]
  go_wp2
  go_ret
  exact ⟨rfl, HB15.out⟩

end Go.Proofs.Ytdigccbffphilaa
