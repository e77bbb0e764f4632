/- QBe: joined of Cl0, Clone, Sg, SgA, Rb0. -/
import Derived.Test.YtbdabdjpgmnejaaQBb
import Derived.Test.YtbdabdjpgmnejaaSub
import Derived.Lib.SliceRun
import Derived.Test.YtbdabdjpgmnejaaQBc
import Derived.Shelf.SlicesQ.IndexFunc
import Derived.Laws.StructEq
/- Rows of terms in blocks of their own. -/
namespace Go.Proofs.Ytbdabdjpgmnejaa
set_option linter.unusedVariables false
set_option linter.unusedSimpArgs false
open Go.RowKit
theorem infoTerm : (Try.prog.info? 28).map (fun i => (i.zero, i.size, i.bytes)) = some (some (.agg #[.int .i64 0, .slice none 0 0]), 2, 32) := by kernel_rfl
/-- A slice of terms in a block of its own, not below lo, that begins with the slice. -/
def NewRow (n₀ lo : Nat) (w : World) (ts : List T) (a : Option Addr) (c : Nat) : Prop :=
  ts.length ≤ c ∧ c ≤ maxLen ∧ (ts = [] ∨ ∃ g cur, a = some ⟨g, 0, none⟩ ∧ lo ≤ g ∧ w.heap[g]? = some (.cells cur 28 (0, 0)) ∧ cur.size = c * 2 ∧ IsRow n₀ w ts g 0)
theorem row_cells {n₀ : Nat} {w : World} : ∀ (ts : List T) (b o : Nat), IsRow n₀ w ts b o → ∃ news : List Value, news.length = ts.length * 2 ∧ (∀ j u, news[j]? = some u → w.cell? ⟨b, o + j, none⟩ = some u) ∧ (∀ u ∈ news, u.oneCell' = true) ∧
    ∀ (W : World) (g q : Nat), Below n₀ w W → (∀ j u, news[j]? = some u → W.cell? ⟨g, q + j, none⟩ = some u) → IsRow n₀ W ts g q := by
  intro ts
  induction ts with
  | nil => intro b o _; exact ⟨[], rfl, by simp, by simp, fun _ _ _ _ _ => trivial⟩
  | cons t ts ih =>
    intro b o h
    simp only [IsRow] at h
    obtain ⟨ht, hr⟩ := h
    obtain ⟨news, hl, hc, h1, hW⟩ := ih b (o + 2) hr
    obtain ⟨wf, p1, a, c, p2, hA⟩ := isT_iff.1 ht
    refine ⟨.int .i64 t.head :: .slice a t.args.length c :: news, by simp [hl]; omega, ?_, ?_, ?_⟩
    · intro j u hj
      match j, hj with
      | 0, hj => simp at hj; subst hj; exact p1
      | 1, hj => simp at hj; subst hj; exact p2
      | j + 2, hj => rw [show o + (j + 2) = o + 2 + j from by omega]; exact hc j u (by simpa using hj)
    · intro u hu
      simp at hu
      rcases hu with rfl | rfl | hu
      · rfl
      · rfl
      · exact h1 u hu
    · intro W g q hB hcell
      simp only [IsRow]
      refine ⟨isT_iff.2 ⟨wf, by simpa using hcell 0 _ rfl, a, c, hcell 1 _ rfl, hA.below hB⟩, hW W g (q + 2) hB (fun j u hj => ?_)⟩
      rw [show q + 2 + j = q + (j + 2) from by omega]
      exact hcell (j + 2) u (by simpa using hj)
def ClonePost (n₀ : Nat) (ts : List T) (w : World) (e : Ending) (w' : World) : Prop := ∃ a2 c2, e = .returned (.slice a2 ts.length c2) ∧ NewRow n₀ w.heap.size w' ts a2 c2 ∧ Below w.heap.size w w'
theorem newRow_of_owns {n₀ base : Nat} {w w' : World} {v : Value} {ts : List T} {news : List Value} (hb : Below n₀ w w') (hown : w'.ownsRow base 28 2 v ts.length news)
    (hW : ∀ (W : World) (g q : Nat), Below n₀ w W → (∀ j u, news[j]? = some u → W.cell? ⟨g, q + j, none⟩ = some u) → IsRow n₀ W ts g q) : ∃ a2 c2, v = .slice a2 ts.length c2 ∧ NewRow n₀ base w' ts a2 c2 := by
  have hcells := fun g hg => hown.cells (g := g) hg
  rcases hown.2 with ⟨rfl, h0⟩ | ⟨g, cap, cur, rfl, hg, hh, hn, hc, hs, _⟩
  · exact ⟨none, 0, by rw [h0], by omega, by simp [maxLen], .inl (List.eq_nil_of_length_eq_zero h0)⟩
  · refine ⟨_, cap, rfl, hn, hc, .inr ⟨g, cur, rfl, hg, hh, hs, hW w' g 0 hb (fun j u hj => ?_)⟩⟩
    have := hcells g rfl j u hj
    rw [show ((⟨g, 0, none⟩ : Addr).add j) = ⟨g, 0 + j, none⟩ from by unfold Addr.add; split <;> simp_all] at this
    exact this
end Go.Proofs.Ytbdabdjpgmnejaa

/- Contract of slices.Clone, at slices of terms. -/
namespace Go.Proofs.Ytbdabdjpgmnejaa
set_option linter.unusedVariables false
set_option linter.unusedSimpArgs false
open Go.RowKit
set_option maxRecDepth 100000 in
set_option maxHeartbeats 1000000 in
theorem cloneN_any (ts : List T) (hts : ts.length ≤ 1000000000000) (n₀ : Nat) (a : Option Addr) (c : Nat) (w : World) (hn : n₀ ≤ w.heap.size) (hA : IsArgs n₀ w ts a c) :
    Calls Try.prog 48 #[.slice a ts.length c] w fun e w' => ∃ a2 c2, e = .returned (.slice a2 ts.length c2) ∧ NewRow n₀ w.heap.size w' ts a2 c2 ∧ Below w.heap.size w w' ∧ (a2 = none → c2 = 0) := by
  have q22 : ∀ (w : World) (a : Option Addr) (n c n' c' : Nat), (binOp .eql 26 (.slice a n c) (.slice none n' c')).run Try.prog w = .ok (.bool a.isNone) w := fun w a n c n' c' => Lib.run_eql_slice_nil w _ _ a n c n' c' Try.underlying26
  cases a with
  | none =>
    have h0 : ts = [] := by rcases hA.2.2 with h | ⟨_, _, h, _⟩; exact h; cases h
    subst h0
    go_enter Try.func48, Try.ntmps48
    go_wp2
    go_ret
    exact ⟨none, 0, rfl, ⟨by simp, by simp [maxLen], .inl rfl⟩, Below.refl _ _, fun _ => rfl⟩
  | some ad =>
    have hnews : ∃ news : List Value, news.length = ts.length * 2 ∧ (∀ j u, news[j]? = some u → w.cell? (ad.add j) = some u) ∧ (∀ u ∈ news, u.oneCell' = true) ∧
        ∀ (W : World) (g q : Nat), Below n₀ w W → (∀ j u, news[j]? = some u → W.cell? ⟨g, q + j, none⟩ = some u) → IsRow n₀ W ts g q := by
      rcases hA.2.2 with rfl | ⟨b, o, h, hb, hrow⟩
      · exact ⟨[], rfl, by simp, by simp, fun _ _ _ _ _ => trivial⟩
      · cases h
        obtain ⟨news, h1, h2, h3, h4⟩ := row_cells ts b o hrow
        exact ⟨news, h1, fun j u hj => by rw [show ((⟨b, o, none⟩ : Addr).add j) = ⟨b, o + j, none⟩ from by unfold Addr.add; split <;> simp_all]; exact h2 j u hj, h3, h4⟩
    obtain ⟨news, h1, h2, h3, h4⟩ := hnews
    have hlt : ∀ j u, news[j]? = some u → (ad.add j).block < w.heap.size := fun j u hj => World.block_lt_of_cell? w _ (h2 j u hj)
    have H2 := Lib.hid h2
    have H3 := Lib.hid h3
    have H4 := Lib.hid h4
    have H1 := Lib.hid h1
    have HLT := Lib.hid hlt
    obtain ⟨i0, hi, hz0, hz1, hz2⟩ := info_parts infoTerm
    clear h1 h2 h3 h4 hA hlt
    go_enter Try.func48, Try.ntmps48
    go_wp2_with (at_builtin; refine stopHere ?_)
    refine Lib.hid ?_
    refine wpList_append_own _ rfl _ _ 26 rfl w.heap.size 28 i0 (.agg #[.int .i64 0, .slice none 0 0]) 2 32 Try.underlying26 hi hz0 hz1 hz2 rfl (by decide) (.slice (some ⟨w.heap.size, 0, none⟩) 0 0) 0 [] rfl
      (World.ownsRow_made w #[] 0 (Nat.le_refl _) (by simp [maxLen]) rfl) ad ts.length c news rfl H1.out (fun j u hj => (World.cell?_of_block (Below.heap_alloc w _ _ (HLT.out j u hj))).trans (H2.out j u hj)) H3.out (by unfold maxLen; omega) (by omega) (by simp) ?_
    intro v' w2 hown hgr _
    have hb2 : Below w.heap.size w w2 := ((Below.refl _ w).alloc (Nat.le_refl _) _).grown hgr (by simp) (by intro k hk; simp [Value.ownBlock] at hk; omega)
    have HB := Lib.hid hb2
    have HO := Lib.hid hown
    clear hown hgr hb2
    go_wp2
    go_ret
    have hown := HO.out
    simp only [Nat.zero_add, List.nil_append] at hown
    obtain ⟨a2, c2, e, hr⟩ := newRow_of_owns (HB.out.mono hn) hown H4.out
    refine ⟨a2, c2, ?_, hr, HB.out, ?_⟩
    · subst e
      rfl
    · intro hn
      subst hn
      rcases hown.2 with ⟨h, _⟩ | ⟨g, cap, cur, h, _⟩
      · rw [e] at h; simp at h; exact h.2
      · rw [e] at h; simp at h
theorem clone_any (ts : List T) (hts : ts.length ≤ 1000000000000) (n₀ : Nat) (a : Option Addr) (c : Nat) (w : World) (hn : n₀ ≤ w.heap.size) (hA : IsArgs n₀ w ts a c) :
    Calls Try.prog 48 #[.slice a ts.length c] w (ClonePost n₀ ts w) :=
  (cloneN_any ts hts n₀ a c w hn hA).mono fun _ _ ⟨a2, c2, h1, h2, h3, _⟩ => ⟨a2, c2, h1, h2, h3⟩
end Go.Proofs.Ytbdabdjpgmnejaa

/- Signatures in memory: plain definitions. -/
namespace Go.Proofs.Ytbdabdjpgmnejaa
set_option linter.unusedVariables false
set_option linter.unusedSimpArgs false
open Go.RowKit
structure Sy where
  name : ByteArray
  ar : Int
  wt : Int
  tr : Bool
  deriving DecidableEq
abbrev Sg := List Sy
def Sy.cells (x : Sy) : List Value := [.string x.name, .int .i64 x.ar, .int .i64 x.wt, .bool x.tr]
abbrev sy (x : Sy) : Value := .agg #[.string x.name, .int .i64 x.ar, .int .i64 x.wt, .bool x.tr]
def Sy.wf (x : Sy) : Prop := x.name.size ≤ maxLen ∧ (Lit.int .i64 x.ar).wf = true ∧ (Lit.int .i64 x.wt).wf = true
def IsSy (W : World) (x : Sy) (b o : Nat) : Prop :=
  x.wf ∧ W.cell? ⟨b, o, none⟩ = some (.string x.name) ∧ W.cell? ⟨b, o + 1, none⟩ = some (.int .i64 x.ar) ∧ W.cell? ⟨b, o + 2, none⟩ = some (.int .i64 x.wt) ∧ W.cell? ⟨b, o + 3, none⟩ = some (.bool x.tr)
def IsSg (n₀ : Nat) (W : World) (g : Sg) (a : Option Addr) (c : Nat) : Prop :=
  g.length ≤ c ∧ c ≤ maxLen ∧ (g = [] ∨ ∃ b o, a = some ⟨b, o, none⟩ ∧ b < n₀ ∧ ∀ (j : Nat) (x : Sy), g[j]? = some x → IsSy W x b (o + j * 4))
theorem IsSg.below {n₀ : Nat} {w w' : World} {g : Sg} {a : Option Addr} {c : Nat} (h : IsSg n₀ w g a c) (hb : Below n₀ w w') : IsSg n₀ w' g a c := by
  obtain ⟨h1, h2, h3⟩ := h
  refine ⟨h1, h2, ?_⟩
  rcases h3 with h3 | ⟨b, o, h4, h5, h6⟩
  · exact .inl h3
  · refine .inr ⟨b, o, h4, h5, fun j x hx => ?_⟩
    obtain ⟨p0, p1, p2, p3, p4⟩ := h6 j x hx
    exact ⟨p0, (hb.cell (p := ⟨b, _, none⟩) h5).trans p1, (hb.cell (p := ⟨b, _, none⟩) h5).trans p2, (hb.cell (p := ⟨b, _, none⟩) h5).trans p3, (hb.cell (p := ⟨b, _, none⟩) h5).trans p4⟩
theorem IsSg.mono {n₀ n₁ : Nat} {w : World} {g : Sg} {a : Option Addr} {c : Nat} (h : IsSg n₀ w g a c) (hn : n₀ ≤ n₁) : IsSg n₁ w g a c := by
  obtain ⟨h1, h2, h3⟩ := h
  refine ⟨h1, h2, ?_⟩
  rcases h3 with h3 | ⟨b, o, h4, h5, h6⟩
  · exact .inl h3
  · exact .inr ⟨b, o, h4, by omega, h6⟩
theorem later_sg {W : World} {g : Sg} {a : Option Addr} {c : Nat} (h : IsSg W.heap.size W g a c) : Later (fun X => IsSg X.heap.size X g a c) W := fun X hX => (h.below hX).mono hX.size
theorem IsSg.elem {n₀ : Nat} {w : World} {g : Sg} {a : Option Addr} {c : Nat} (h : IsSg n₀ w g a c) {i : Nat} (hi : i < g.length) :
    ∃ (b o : Nat) (x : Sy), a = some ⟨b, o, none⟩ ∧ b < n₀ ∧ g[i]? = some x ∧ x.wf ∧ w.cell? ⟨b, o + i * 4, none⟩ = some (.string x.name) ∧ w.cell? ⟨b, o + i * 4 + 1, none⟩ = some (.int .i64 x.ar) ∧
      w.cell? ⟨b, o + i * 4 + 2, none⟩ = some (.int .i64 x.wt) ∧ w.cell? ⟨b, o + i * 4 + 3, none⟩ = some (.bool x.tr) := by
  obtain ⟨_, _, h3⟩ := h
  rcases h3 with rfl | ⟨b, o, rfl, h4, h5⟩
  · simp at hi
  · obtain ⟨p0, p1, p2, p3, p4⟩ := h5 i _ (List.getElem?_eq_getElem hi)
    exact ⟨b, o, g[i], rfl, h4, List.getElem?_eq_getElem hi, p0, p1, p2, p3, p4⟩
/-! ### What the document says of signatures -/
/-- May the symbol not be in a signature? -/
def badSy (x : Sy) : Bool := decide (x.name.size < 1) || decide (64 < x.name.size) || decide (x.ar < 0) || decide (8 < x.ar) || decide (x.wt < 1) || decide (1000 < x.wt)
/-- The number of the first symbol of that name; -1: none. -/
def idxSy (name : ByteArray) : Sg → Option Nat
  | [] => none
  | x :: g => if x.name = name then some 0 else (idxSy name g).map (· + 1)
theorem idxSy_get {name : ByteArray} : ∀ {g : Sg} {i : Nat}, idxSy name g = some i → ∃ x, g[i]? = some x ∧ x.name = name ∧ ∀ (j : Nat) (y : Sy), j < i → g[j]? = some y → y.name ≠ name
  | [], i, h => by simp [idxSy] at h
  | x :: g, i, h => by
    simp only [idxSy] at h
    split at h
    · rename_i hx
      obtain rfl := Option.some.inj h
      exact ⟨x, rfl, hx, fun j y hj => by omega⟩
    · rename_i hx
      rw [Option.map_eq_some_iff] at h
      obtain ⟨k, hk, rfl⟩ := h
      obtain ⟨y, h1, h2, h3⟩ := idxSy_get hk
      refine ⟨y, by simpa using h1, h2, fun j z hj hz => ?_⟩
      cases j with
      | zero => simp at hz; subst hz; exact hx
      | succ j => exact h3 j z (by omega) (by simpa using hz)
theorem idxSy_none {name : ByteArray} : ∀ {g : Sg}, idxSy name g = none → ∀ x ∈ g, x.name ≠ name
  | [], h => by simp
  | x :: g, h => by
    simp only [idxSy] at h
    split at h
    · cases h
    · rename_i hx
      have := idxSy_none (Option.map_eq_none_iff.1 h)
      intro y hy
      rcases List.mem_cons.1 hy with rfl | hy
      · exact hx
      · exact this y hy
/-- Is each symbol the first of its name? -/
def difSg (g : Sg) : Bool := (List.range g.length).all fun i => match g[i]? with
  | some x => decide (idxSy x.name g = some i)
  | none => true
def sy0 : Sy := { name := ⟨#[36, 116, 114, 117, 101]⟩, ar := 0, wt := 1, tr := true }
def rightG (g : Sg) : Bool := decide (1 ≤ g.length) && decide (g.length ≤ 256) && decide (g[0]? = some sy0) && !(g.any badSy) && difSg g
def errG (g : Sg) : Int := if rightG g then 0 else 1
/-- Do all symbols of a term stand in the signature, with as many arguments? -/
def armOk (g : Sg) (h : Int) (n : Nat) : Bool := decide (h < 0) || match g[h.toNat]? with
  | some x => decide ((n : Int) = x.ar)
  | none => false
mutual
def fitsT (g : Sg) : T → Bool
  | .node h ts => decide (h < 0) || (armOk g h ts.length && fitsL g ts)
def fitsL (g : Sg) : List T → Bool
  | [] => true
  | t :: ts => fitsT g t && fitsL g ts
end
theorem fitsT_eq (g : Sg) (t : T) : fitsT g t = (decide (t.head < 0) || (armOk g t.head t.args.length && fitsL g t.args)) := by cases t; rfl
theorem fitsL_all (g : Sg) (ts : List T) : fitsL g ts = ts.all (fitsT g) := by
  induction ts with
  | nil => rfl
  | cons t ts ih => simp [fitsL, ih]
/-- Is the symbol a predicate? -/
def predS (g : Sg) (h : Int) : Bool := decide (0 ≤ h) && match g[h.toNat]? with
  | some x => x.tr
  | none => false
mutual
def predT (g : Sg) : T → Bool
  | .node h ts => predS g h || predL g ts
def predL (g : Sg) : List T → Bool
  | [] => false
  | t :: ts => predT g t || predL g ts
end
theorem predT_eq (g : Sg) (t : T) : predT g t = (predS g t.head || predL g t.args) := by cases t; rfl
theorem predL_any (g : Sg) (ts : List T) : predL g ts = ts.any (predT g) := by
  induction ts with
  | nil => rfl
  | cons t ts ih => simp [predL, ih]
def errT (g : Sg) (t : T) : Int := if rightG g then if t.check = 0 then if fitsT g t then if predL g t.args then 10 else 0 else 1 else t.check else 1
/-- The weight of a head. -/
def wo (g : Sg) (h : Int) : Int := if h < 0 then 1 else match g[h.toNat]? with
  | some x => x.wt
  | none => 0
mutual
def wtT (g : Sg) : T → Int
  | .node h ts => wo g h + wtL g ts
def wtL (g : Sg) : List T → Int
  | [] => 0
  | t :: ts => wtT g t + wtL g ts
end
end Go.Proofs.Ytbdabdjpgmnejaa

/- Contracts of weigh's notAllowed, Find, differentNames and Check. -/
namespace Go.Proofs
open Go.Shelf
def Try.idxSym_ren : Go.Shelf.Ren := ⟨fun | 6 => 68 | n => n, fun | 22 => 49 | 23 => 64 | 25 => 85 | 3 => 3 | 0 => 0 | 4 => 4 | n => n, fun | n => n⟩
theorem Try.idxSym : Go.Proofs.SlLaysH0.n6 Try.prog Try.idxSym_ren := {
  mixed := by kernel_rfl
  f6 := ⟨Try.f68.name, by decide, Try.func68.trans (congrArg some (by kernel_rfl))⟩
  t0 := Try.underlying0
  a0 := Try.isAgg0
  z0 := Try.sizeOf0
  v0 := Try.zeroValue0
  t3 := Try.underlying3
  a3 := Try.isAgg3
  z3 := Try.sizeOf3
  v3 := Try.zeroValue3
  t4 := Try.underlying4
  a4 := Try.isAgg4
  z4 := Try.sizeOf4
  v4 := Try.zeroValue4
  t22 := Try.underlying49
  a22 := Try.isAgg49
  z22 := Try.sizeOf49
  v22 := Try.zeroValue49
  t25 := Try.underlying85
  a25 := Try.isAgg85
  z25 := Try.sizeOf85
  v25 := Try.zeroValue85 }
def Try.conSym_ren : Go.Shelf.Ren := ⟨fun | 8 => 58 | 6 => 68 | n => n, fun | 22 => 49 | 23 => 64 | 25 => 85 | 4 => 4 | 3 => 3 | 0 => 0 | n => n, fun | n => n⟩
theorem Try.conSym : Go.Proofs.SlLaysH0.n8 Try.prog Try.conSym_ren := {
  mixed := by kernel_rfl
  f6 := ⟨Try.f68.name, by decide, Try.func68.trans (congrArg some (by kernel_rfl))⟩
  f8 := ⟨Try.f58.name, by decide, Try.func58.trans (congrArg some (by kernel_rfl))⟩
  t0 := Try.underlying0
  a0 := Try.isAgg0
  z0 := Try.sizeOf0
  v0 := Try.zeroValue0
  t3 := Try.underlying3
  a3 := Try.isAgg3
  z3 := Try.sizeOf3
  v3 := Try.zeroValue3
  t4 := Try.underlying4
  a4 := Try.isAgg4
  z4 := Try.sizeOf4
  v4 := Try.zeroValue4
  t22 := Try.underlying49
  a22 := Try.isAgg49
  z22 := Try.sizeOf49
  v22 := Try.zeroValue49
  t25 := Try.underlying85
  a25 := Try.isAgg85
  z25 := Try.sizeOf85
  v25 := Try.zeroValue85 }
end Go.Proofs
namespace Go.Proofs.Ytbdabdjpgmnejaa
set_option linter.unusedVariables false
set_option linter.unusedSimpArgs false
open Go.RowKit
instance : Inhabited Sy := ⟨⟨ByteArray.empty, 0, 0, false⟩⟩
theorem beq_toList_decide (a b : ByteArray) : (a.toList == b.toList) = decide (a = b) := by
  rw [ByteArray.toList_eq, ByteArray.toList_eq]
  obtain ⟨⟨x⟩⟩ := a
  obtain ⟨⟨y⟩⟩ := b
  by_cases h : x = y
  · subst h; simp
  · simp [h]
theorem tl_iff (a b : ByteArray) : a.toList = b.toList ↔ a = b := by
  have := beq_toList_decide a b
  constructor
  · intro h
    rw [h] at this
    simpa using this.symm
  · rintro rfl; rfl
/-- The closure of Find: has the symbol that name? -/
theorem find1_any (name : ByteArray) (B : Nat) (w : World) (hB : B < w.heap.size) (hcell : w.cell? ⟨B, 0, none⟩ = some (.string name)) :
    PredBelow Try.prog 72 #[.pointer (some ⟨B, 0, none⟩)] (fun x : Sy => .agg x.cells.toArray) (fun x => decide (x.name = name)) w := fun W x hb => by
  have hc : W.cell? ⟨B, 0, none⟩ = some (.string name) := (hb.cell (p := ⟨B, 0, none⟩) hB).trans hcell
  have hBW : B < W.heap.size := Nat.lt_of_lt_of_le hB hb.size
  have hne : B ≠ W.heap.size := by omega
  show Calls Try.prog 72 #[sy x, .pointer (some ⟨B, 0, none⟩)] W _
  have HB := Lib.hid hb
  clear hb
  go_enter Try.func72, Try.ntmps72
  go_wp2
  all_goals (go_ret; refine ⟨?_, HB.out.alloc HB.out.size _⟩; first | simp [beq_toList_decide] | simp_all)
theorem notAllowed_any (w : World) :
    PredBelow Try.prog 59 #[] (fun x : Sy => .agg x.cells.toArray) badSy w := fun W x hb => by
  show Calls Try.prog 59 #[sy x] W _
  have HB := Lib.hid hb
  clear hb
  have hbad : badSy x = (decide (x.name.size < 1) || decide (64 < x.name.size) || decide (x.ar < 0) || decide (8 < x.ar) || decide (x.wt < 1) || decide (1000 < x.wt)) := rfl
  rw [hbad]
  clear hbad
  by_cases q1 : x.name.size < 1
  · go_enter Try.func59, Try.ntmps59
    go_wp2
    all_goals (go_ret; refine ⟨?_, HB.out.alloc HB.out.size _⟩; first | simp [q1] | simp_all)
  by_cases q2 : 64 < x.name.size
  · go_enter Try.func59, Try.ntmps59
    go_wp2
    all_goals (go_ret; refine ⟨?_, HB.out.alloc HB.out.size _⟩; first | simp [q1, q2] | simp_all)
  by_cases q3 : x.ar < 0
  · go_enter Try.func59, Try.ntmps59
    go_wp2
    all_goals (go_ret; refine ⟨?_, HB.out.alloc HB.out.size _⟩; first | simp [q1, q2, q3] | simp_all)
  by_cases q4 : 8 < x.ar
  · go_enter Try.func59, Try.ntmps59
    go_wp2
    all_goals (go_ret; refine ⟨?_, HB.out.alloc HB.out.size _⟩; first | simp [q1, q2, q3, q4] | simp_all)
  by_cases q5 : x.wt < 1
  · go_enter Try.func59, Try.ntmps59
    go_wp2
    all_goals (go_ret; refine ⟨?_, HB.out.alloc HB.out.size _⟩; first | simp [q1, q2, q3, q4, q5] | simp_all)
  by_cases q6 : 1000 < x.wt
  · go_enter Try.func59, Try.ntmps59
    go_wp2
    all_goals (go_ret; refine ⟨?_, HB.out.alloc HB.out.size _⟩; first | simp [q1, q2, q3, q4, q5, q6] | simp_all)
  · go_enter Try.func59, Try.ntmps59
    go_wp2
    all_goals (go_ret; refine ⟨?_, HB.out.alloc HB.out.size _⟩; simp [show ¬ ((x.name.size : Int) < 1) from by omega, show ¬ (64 < (x.name.size : Int)) from by omega, show ¬ (x.ar < 0) from by omega, show ¬ (8 < x.ar) from by omega, show ¬ (x.wt < 1) from by omega, show ¬ (1000 < x.wt) from by omega, q1, q2, q3, q4, q5, q6])
/-- The library's IndexFunc and ContainsFunc at symbols, whatever the predicate. -/
theorem indexSy_any (p : Sy → Bool) (f : Nat) (lb : Array Value) (eg : ∀ args w, (callFunc f args).run Try.prog w = .ok (.enter f args) w) (g : Sg) (n₀ : Nat) (a : Option Addr) (c : Nat) (w : World) (hn : n₀ ≤ w.heap.size) (hG : IsSg n₀ w g a c)
    (hp : PredBelow Try.prog f lb (fun x : Sy => .agg x.cells.toArray) p w) (hg : 0 < g.length) :
    Calls Try.prog 68 #[.slice a g.length c, .func (.func f) #[] lb] w fun e w' => e = .returned (.int .i64 (Lib.idxBy (fun _ y => p y) g default)) ∧ Below w.heap.size w w' := by
  obtain ⟨h1, h2, h3⟩ := hG
  rcases h3 with rfl | ⟨b, o, rfl, hb, hr⟩
  · simp at hg
  · have h := AnyQ.slices_IndexFunc Try.idxSym 4 Try.isAgg64 Try.sizeOf64 Sy.cells (fun _ => rfl) p f lb eg b o g.length c g w hp (Nat.le_refl _) (by unfold maxLen at h2; omega) (by omega)
      (fun j hj i v hv => by
        have hx := hr j g[j] (List.getElem?_eq_getElem hj)
        rw [getElem!_pos g j hj] at hv
        generalize g[j] = x at hx hv
        obtain ⟨_, q0, q1, q2, q3⟩ := hx
        match i, hv with
        | 0, hv => simp [Sy.cells] at hv; rw [← hv]; exact q0
        | 1, hv => simp [Sy.cells] at hv; rw [← hv]; exact q1
        | 2, hv => simp [Sy.cells] at hv; rw [← hv]; exact q2
        | 3, hv => simp [Sy.cells] at hv; rw [← hv]; exact q3
        | i + 4, hv => simp [Sy.cells] at hv)
    rw [List.take_length] at h
    exact h
theorem containsBad_any (g : Sg) (n₀ : Nat) (a : Option Addr) (c : Nat) (w : World) (hn : n₀ ≤ w.heap.size) (hG : IsSg n₀ w g a c) (hg : 0 < g.length) :
    Calls Try.prog 58 #[.slice a g.length c, .func (.func 59) #[] #[]] w fun e w' => e = .returned (.bool (g.any badSy)) ∧ Below w.heap.size w w' := by
  obtain ⟨h1, h2, h3⟩ := hG
  rcases h3 with rfl | ⟨b, o, rfl, hb, hr⟩
  · simp at hg
  · have h := AnyQ.slices_ContainsFunc Try.conSym 4 Try.isAgg64 Try.sizeOf64 Sy.cells (fun _ => rfl) badSy 59 #[] (enters_of Try.func59 (by kernel_rfl) rfl) b o g.length c g w (notAllowed_any w) (Nat.le_refl _) (by unfold maxLen at h2; omega) (by omega)
      (fun j hj i v hv => by
        have hx := hr j g[j] (List.getElem?_eq_getElem hj)
        rw [getElem!_pos g j hj] at hv
        generalize g[j] = x at hx hv
        obtain ⟨_, q0, q1, q2, q3⟩ := hx
        match i, hv with
        | 0, hv => simp [Sy.cells] at hv; rw [← hv]; exact q0
        | 1, hv => simp [Sy.cells] at hv; rw [← hv]; exact q1
        | 2, hv => simp [Sy.cells] at hv; rw [← hv]; exact q2
        | 3, hv => simp [Sy.cells] at hv; rw [← hv]; exact q3
        | i + 4, hv => simp [Sy.cells] at hv)
    rw [List.take_length] at h
    exact h
theorem idxBy_sy (name : ByteArray) (g : Sg) : Lib.idxBy (fun _ (y : Sy) => decide (y.name = name)) g default = match idxSy name g with
    | some i => (i : Int)
    | none => -1 := by
  cases h : idxSy name g with
  | none =>
    have h1 := idxSy_none h
    have := Lib.idxBy_miss (fun _ (y : Sy) => decide (y.name = name)) g g.length default (fun j hj => by
      rw [getElem!_pos g j hj]
      simpa using h1 g[j] (List.getElem_mem hj))
    rw [List.take_length] at this
    exact this
  | some i =>
    obtain ⟨x, h1, h2, h3⟩ := idxSy_get h
    obtain ⟨hi, e⟩ := List.getElem?_eq_some_iff.1 h1
    have := Lib.idxBy_hit (fun _ (y : Sy) => decide (y.name = name)) g g.length i default hi (Nat.le_refl _) (by rw [getElem!_pos g i hi, e]; simpa using h2) (fun j hj => by
      have hjl : j < g.length := by omega
      rw [getElem!_pos g j hjl]
      simpa using h3 j g[j] hj (List.getElem?_eq_getElem hjl))
    rw [List.take_length] at this
    exact this
/-- What Find returns. -/
def findV (name : ByteArray) (g : Sg) : Value := match idxSy name g with
  | some i => .tuple #[.int .i64 (i : Int), .bool true]
  | none => .tuple #[.int .i64 0, .bool false]
theorem find_any (name : ByteArray) (g : Sg) (hg : 0 < g.length) (n₀ : Nat) (a : Option Addr) (c : Nat) (w : World) (hn : n₀ ≤ w.heap.size) (hG : IsSg n₀ w g a c) :
    Calls Try.prog 69 #[.slice a g.length c, .string name] w fun e w' => e = .returned (findV name g) ∧ Below w.heap.size w w' := by
  have hlc : g.length ≤ c ∧ c ≤ maxLen := ⟨hG.1, hG.2.1⟩
  unfold maxLen at hlc
  obtain ⟨hl1, hl2⟩ := hlc
  have eg : ∀ args w, (callFunc 72 args).run Try.prog w = .ok (.enter 72 args) w := enters_of Try.func72 (by kernel_rfl) rfl
  have CI := Lib.hid (indexSy_any (fun y => decide (y.name = name)) 72 #[.pointer (some ⟨w.heap.size, 0, none⟩)] eg g n₀ a c (w.alloc (.cells #[.string name] 9)) (by simp; omega)
    (hG.below ((Below.refl _ _).alloc hn _)) (find1_any name w.heap.size _ (by simp) (by simp)) hg)
  have HI := Lib.hid (idxBy_sy name g)
  have HG := Lib.hid (show ∀ i, idxSy name g = some i → i < g.length from fun i hi => by
    obtain ⟨x, h1, _⟩ := idxSy_get hi
    exact (List.getElem?_eq_some_iff.1 h1).1)
  clear hG eg
  unfold findV
  generalize Lib.idxBy (fun _ (y : Sy) => decide (y.name = name)) g default = r at *
  cases hx : idxSy name g with
  | none =>
    have hr : r = -1 := by have := HI.out; rw [hx] at this; exact this
    subst hr
    clear hx
    go_enter Try.func69, Try.ntmps69
    go_wp2_with fail
    refine CI.out.mono ?_
    rintro e w2 ⟨rfl, hb2⟩
    have HB2 := Lib.hid (((Below.refl _ w).alloc (Nat.le_refl _) _).trans (hb2.mono (by simp)))
    clear hb2
    go_wp2
    refine bodyPost_ret (v := .tuple #[.int .i64 0, .bool false]) (by simp [results, Try.results69, go_sem] <;> decide) rfl ?_
    exact ⟨rfl, HB2.out⟩
  | some i =>
    have hr : r = (i : Int) := by have := HI.out; rw [hx] at this; exact this
    have hil := HG.out i hx
    subst hr
    clear hx
    go_enter Try.func69, Try.ntmps69
    go_wp2_with fail
    refine CI.out.mono ?_
    rintro e w2 ⟨rfl, hb2⟩
    have HB2 := Lib.hid (((Below.refl _ w).alloc (Nat.le_refl _) _).trans (hb2.mono (by simp)))
    clear hb2
    go_wp2
    refine bodyPost_ret (v := .tuple #[.int .i64 (i : Int), .bool true]) (by simp [results, Try.results69, go_sem]) rfl ?_
    exact ⟨rfl, HB2.out⟩
def DifI (g : Sg) (w : World) (i : Value) (wr : World) : Prop := ∃ k : Nat, k ≤ g.length ∧ i = .int .i64 k ∧ (∀ j x, j < k → g[j]? = some x → idxSy x.name g = some j) ∧ Below w.heap.size w wr
set_option maxRecDepth 100000 in
set_option maxHeartbeats 2000000 in
theorem different_any (g : Sg) (hg : 0 < g.length) (n₀ : Nat) (a : Option Addr) (c : Nat) (w : World) (hn : n₀ ≤ w.heap.size) (hG : IsSg n₀ w g a c) :
    Calls Try.prog 60 #[.slice a g.length c] w fun e w' => e = .returned (.bool (difSg g)) ∧ Below w.heap.size w w' := by
  have hlc : g.length ≤ c ∧ c ≤ maxLen := ⟨hG.1, hG.2.1⟩
  unfold maxLen at hlc
  obtain ⟨hl1, hl2⟩ := hlc
  have HS := Lib.hid hG
  clear hG
  go_enter Try.func60, Try.ntmps60
  go_wp2
  go_loopw [9] (fun i wr => DifI g w i wr) (fun i _ => g.length - (intOf i).toNat)
  case atStart => exact ⟨0, Nat.zero_le _, rfl, fun j x hj => by omega, Below.refl _ _⟩
  case round =>
    obtain ⟨k, hk, rfl, hbd, hB⟩ := hrel
    have HBD := Lib.hid hbd
    have HB := Lib.hid hB
    have hbz := hB.size
    clear hbd hB
    by_cases hlt : k < g.length
    · obtain ⟨b, o, x, rfl, hbn, hs, hxw, hc0, hc1, hc2, hc3⟩ := (HS.out.below (HB.out.mono hn)).elem (i := k) hlt
      have hk0 : (0 : Int) ≤ (k : Int) := Int.natCast_nonneg _
      have hk1 : (k : Int) < (g.length : Int) := by omega
      have hbw : b < wr.heap.size := by omega
      have HXK := Lib.hid hs
      have CF := Lib.hid (fun (W : World) (hW : Below w.heap.size w W) => find_any x.name g hg n₀ (some ⟨b, o, none⟩) c W (Nat.le_trans hn hW.size) (HS.out.below (hW.mono hn)))
      clear hs hxw
      cases hx : idxSy x.name g with
      | none => 
        have := idxSy_none hx x (List.mem_of_getElem? HXK.out)
        exact absurd rfl this
      | some i =>
      have HX := Lib.hid hx
      have hil : i < g.length := by obtain ⟨y, h1, _⟩ := idxSy_get hx; exact (List.getElem?_eq_some_iff.1 h1).1
      have hfv : findV x.name g = .tuple #[.int .i64 (i : Int), .bool true] := by unfold findV; rw [hx]
      rw [hfv] at CF
      clear hfv hx
      go_wp2_with fail
      refine (CF.out _ (by first | exact HB.out.alloc HB.out.size _ | exact (HB.out.alloc HB.out.size _).alloc (by simp; omega) _)).mono ?_
      rintro e w2 ⟨rfl, hb2⟩
      have HB2 := Lib.hid ((HB.out.alloc HB.out.size _).trans (hb2.mono (by simp; omega)))
      clear hb2
      by_cases hik : i = k
      · subst hik
        go_wp2
        go_roundw
        case rel =>
          refine ⟨i + 1, by omega, by go_num, fun j y hj hy => ?_, HB2.out⟩
          by_cases e : j = i
          · subst e
            rw [HXK.out] at hy
            obtain rfl := Option.some.inj hy
            exact HX.out
          · exact HBD.out j y (by omega) hy
        case measure => simp [intOf]; omega
      · have hik' : ¬ ((i : Int) = (k : Int)) := by omega
        have HD := Lib.hid (show difSg g = false from by
          have h1 : ¬ (∀ j, j < g.length → ∀ y, g[j]? = some y → idxSy y.name g = some j) := fun h => by
            have := h k hlt x HXK.out
            rw [HX.out] at this
            exact hik (Option.some.inj this)
          cases hd : difSg g with
          | false => rfl
          | true =>
            exfalso
            apply h1
            intro j hj y hy
            have := List.all_eq_true.1 hd j (List.mem_range.2 hj)
            simpa [hy] using this)
        go_wp2
        go_ret
        exact ⟨by rw [HD.out]; rfl, HB2.out⟩
    · obtain rfl : k = g.length := by omega
      have HD := Lib.hid (show difSg g = true from List.all_eq_true.2 fun j hj => by
        have hj := List.mem_range.1 hj
        have := HBD.out j g[j] hj (List.getElem?_eq_getElem hj)
        simp [List.getElem?_eq_getElem hj, this])
      go_wp2
      go_ret
      exact ⟨by rw [HD.out]; rfl, HB.out⟩
theorem neqSym (x y : Sy) (w : World) : Sem.run Try.prog (binOp .neq 64 (sy x) (sy y)) w = .ok (.bool (decide (x ≠ y))) w := by
  have hS : Try.prog.underlying 64 = some (.struct (Try.prog.fieldsOf 64)) := by kernel_rfl
  have hp : Try.prog.stoodInHeld 64 = false := by kernel_rfl
  have a1 := Try.isAgg9
  have z1 := Try.sizeOf9
  have u1 := Try.underlying9
  have a3 := Try.isAgg3
  have z3 := Try.sizeOf3
  have u3 := Try.underlying3
  have a4 := Try.isAgg4
  have z4 := Try.sizeOf4
  have u4 := Try.underlying4
  rw [run_neq_struct, show (10000 : Nat) = 9999 + 1 from rfl, run_equalIn_agg w 9999 64 _ _ hS hp]
  simp only [Program.fieldsOf, Try.underlying64]
  go_simp
  obtain ⟨n1, a1, t1, r1⟩ := x
  obtain ⟨n2, a2, t2, r2⟩ := y
  simp only [tl_iff, Sy.mk.injEq]
  by_cases h1 : n1 = n2 <;> by_cases h2 : a1 = a2 <;> by_cases h3 : t1 = t2 <;> by_cases h4 : r1 = r2 <;> simp [h1, h2, h3, h4]
set_option maxRecDepth 100000 in
set_option maxHeartbeats 2000000 in
theorem sgCheck_any (g : Sg) (n₀ : Nat) (a : Option Addr) (c : Nat) (w : World) (hn : n₀ ≤ w.heap.size) (hG : IsSg n₀ w g a c) :
    Calls Try.prog 40 #[.slice a g.length c] w fun e w' => e = .returned (.int .i64 (errG g)) ∧ Below w.heap.size w w' := by
  have hlc : g.length ≤ c ∧ c ≤ maxLen := ⟨hG.1, hG.2.1⟩
  unfold maxLen at hlc
  obtain ⟨hl1, hl2⟩ := hlc
  have HG := Lib.hid hG
  clear hG
  by_cases q1 : g.length < 1
  · have HE := Lib.hid (show errG g = 1 from by unfold errG rightG; simp [show ¬ 1 ≤ g.length from by omega])
    go_enter Try.func40, Try.ntmps40
    go_wp2
    go_ret
    exact ⟨by rw [HE.out]; rfl, Below.refl _ _⟩
  by_cases q2 : 256 < g.length
  · have HE := Lib.hid (show errG g = 1 from by unfold errG rightG; simp [show ¬ g.length ≤ 256 from by omega])
    go_enter Try.func40, Try.ntmps40
    go_wp2
    go_ret
    exact ⟨by rw [HE.out]; rfl, Below.refl _ _⟩
  obtain ⟨b, o, x, rfl, hbn, hs, hxw, hc0, hc1, hc2, hc3⟩ := HG.out.elem (i := 0) (by omega)
  simp only [Nat.zero_mul, Nat.add_zero] at hc0 hc1 hc2 hc3
  have hgd := fun (op : BinOp) (p q : Operand) (u v : Array Value) (W : World) => run_eqGuard_agg (P := Try.prog) W op 64 p q u v (by kernel_rfl)
  have h0 : (decide (g[0]? = some sy0)) = decide (x = sy0) := by rw [hs]; simp
  have HS := Lib.hid h0
  clear h0 hs
  by_cases q3 : x = sy0
  · have q3x := q3
    have hneq : ∀ W, Sem.run Try.prog (binOp .neq 64 (.agg #[.string x.name, .int .i64 x.ar, .int .i64 x.wt, .bool x.tr]) (.agg #[.string ⟨#[36, 116, 114, 117, 101]⟩, .int .i64 0, .int .i64 1, .bool true])) W = .ok (.bool false) W := fun W => (neqSym x sy0 W).trans (by simp [q3])
    have H3 := Lib.hid (show decide (g[0]? = some sy0) = true from by rw [HS.out, q3]; simp)
    have CB := Lib.hid (containsBad_any g n₀ (some ⟨b, o, none⟩) c w hn HG.out (by omega))
    have CD := Lib.hid (fun (W : World) (hW : Below w.heap.size w W) => different_any g (by omega) n₀ (some ⟨b, o, none⟩) c W (Nat.le_trans hn hW.size) (HG.out.below (hW.mono hn)))
    clear q3 q3x
    go_enter Try.func40, Try.ntmps40
    go_wp2_with fail
    refine CB.out.mono ?_
    rintro e w2 ⟨rfl, hb2⟩
    have HB2 := Lib.hid hb2
    clear hb2
    cases hA : g.any badSy with
    | true =>
      have HE := Lib.hid (show errG g = 1 from by unfold errG rightG; rw [hA]; simp)
      clear hA
      go_wp2
      go_ret
      exact ⟨by rw [HE.out]; rfl, HB2.out⟩
    | false =>
      have HA := Lib.hid hA
      clear hA
      go_wp2_with fail
      refine (CD.out _ HB2.out).mono ?_
      rintro e w3 ⟨rfl, hb3⟩
      have HB3 := Lib.hid (HB2.out.trans (hb3.mono HB2.out.size))
      clear hb3
      cases hD : difSg g with
      | true =>
        have HE := Lib.hid (show errG g = 0 from by unfold errG rightG; rw [H3.out, HA.out, hD]; simp; omega)
        clear hD
        go_wp2
        go_ret
        exact ⟨by rw [HE.out]; rfl, HB3.out⟩
      | false =>
        have HE := Lib.hid (show errG g = 1 from by unfold errG rightG; rw [hD]; simp)
        clear hD
        go_wp2
        go_ret
        exact ⟨by rw [HE.out]; rfl, HB3.out⟩
  · have q3x := q3
    have hneq : ∀ W, Sem.run Try.prog (binOp .neq 64 (.agg #[.string x.name, .int .i64 x.ar, .int .i64 x.wt, .bool x.tr]) (.agg #[.string ⟨#[36, 116, 114, 117, 101]⟩, .int .i64 0, .int .i64 1, .bool true])) W = .ok (.bool true) W := fun W => (neqSym x sy0 W).trans (by simp [q3])
    have HE := Lib.hid (show errG g = 1 from by unfold errG rightG; rw [HS.out]; simp [q3])
    clear q3 q3x
    go_enter Try.func40, Try.ntmps40
    go_wp2
    go_ret
    exact ⟨by rw [HE.out]; rfl, Below.refl _ _⟩
end Go.Proofs.Ytbdabdjpgmnejaa

/- Rb0: of RCk, the plain lemmas on depth and on bad subterms. -/
namespace Go.Proofs.Ytbdabdjpgmnejaa
set_option linter.unusedVariables false
set_option linter.unusedSimpArgs false
open Go.RowKit
theorem bad_eq (t : T) : bad (T.subs 1 t) = (!okB t.head t.args.length || bad (T.subss 2 t.args)) := by rw [T.subs_eq]; rfl
mutual
theorem bad_level (l l' : Nat) : (t : T) → bad (T.subs l t) = bad (T.subs l' t)
  | .node h ts => by
    have := bads_level (l + 1) (l' + 1) ts
    simp only [bad, T.subs, List.any_cons] at this ⊢
    rw [this]
theorem bads_level (l l' : Nat) : (ts : List T) → bad (T.subss l ts) = bad (T.subss l' ts)
  | [] => rfl
  | t :: ts => by
    have h1 := bad_level l l' t
    have h2 := bads_level l l' ts
    simp only [bad, T.subss, List.any_append] at h1 h2 ⊢
    rw [h1, h2]
end
theorem bads_take {ts : List T} {i : Nat} {t : T} (h : ts[i]? = some t) : bad (T.subss 2 (ts.take (i + 1))) = (bad (T.subss 2 (ts.take i)) || bad (T.subs 1 t)) := by
  obtain ⟨hi, e⟩ := List.getElem?_eq_some_iff.1 h
  have happ : ∀ (a b : List T), bad (T.subss 2 (a ++ b)) = (bad (T.subss 2 a) || bad (T.subss 2 b)) := by
    intro a b
    induction a with
    | nil => simp [T.subss, bad]
    | cons t ts ih => simp only [List.cons_append, T.subss, bad, List.any_append] at ih ⊢; rw [ih, Bool.or_assoc]
  rw [List.take_succ_eq_append_getElem hi, happ, e]
  congr 1
  rw [bad_level 1 2 t]
  simp [T.subss]
theorem bads_mem {ts : List T} {i : Nat} {t : T} (h : ts[i]? = some t) (hb : bad (T.subs 1 t) = true) : bad (T.subss 2 ts) = true := by
  have h1 := bads_take h
  rw [hb, Bool.or_true] at h1
  have happ : ∀ (a b : List T), bad (T.subss 2 a) = true → bad (T.subss 2 (a ++ b)) = true := by
    intro a b
    induction a with
    | nil => simp [T.subss, bad]
    | cons t ts ih =>
      simp only [List.cons_append, T.subss, bad, List.any_append, Bool.or_eq_true] at ih ⊢
      rintro (h | h)
      · exact .inl h
      · exact .inr (ih h)
  have := happ _ (ts.drop (i + 1)) h1
  rwa [List.take_append_drop] at this
theorem good_arg {t s : T} {k : Nat} (h : bad (T.subs 1 t) = false) (hs : t.args[k]? = some s) : bad (T.subs 1 s) = false := by
  rw [bad_eq, Bool.or_eq_false_iff] at h
  cases hb : bad (T.subs 1 s)
  · rfl
  · have := bads_mem hs hb
    rw [h.2] at this
    cases this
theorem good_head {t : T} (h : bad (T.subs 1 t) = false) : okB t.head t.args.length = true := by
  rw [bad_eq, Bool.or_eq_false_iff] at h
  simpa using h.1
theorem good_var {t : T} (h : bad (T.subs 1 t) = false) (hn : t.head < 0) : t.args = [] := by
  have := good_head h
  simp [okB, hn] at this
  exact this.1
theorem check_ok {t : T} (h : t.check = 0) : t.size ≤ 400 ∧ t.depth ≤ 40 ∧ bad (T.subs 1 t) = false := by
  unfold T.check at h
  by_cases q1 : 400 < t.size
  · rw [if_pos q1] at h; cases h
  · rw [if_neg q1] at h
    by_cases q2 : 40 < t.depth
    · rw [if_pos q2] at h; cases h
    · rw [if_neg q2] at h
      cases hb : bad (T.subs 1 t)
      · exact ⟨by omega, by omega, rfl⟩
      · rw [hb] at h; cases h
end Go.Proofs.Ytbdabdjpgmnejaa
