/- Q1c: joined of Cn0, Lt0, Sb. -/
import Derived.Test.YtcbjnfdhghhgeaaLeaf
import Derived.Test.YtcbjnfdhghhgeaaQ1a
import Derived.Test.YtcbjnfdhghhgeaaQ1b
import Derived.Laws.AppendOwnNone
/- Contracts of Count and Few. -/
namespace Go.Proofs.Ytcbjnfdhghhgeaa
set_option linter.unusedVariables false
set_option linter.unusedSimpArgs false
open Go.RowKit

/-- Count(t, most): the size, as far as one above most. -/
theorem count_any : ∀ (N : Nat) (t : T), t.size ≤ N → ∀ (most : Nat) (n₀ : Nat) (a : Option Addr) (c : Nat) (w : World), most ≤ 500 → n₀ ≤ w.heap.size → IsArgs n₀ w t.args a c →
    Calls Try.prog 44 #[tm t.head a t.args.length c, .int .i64 most] w fun e w' => e = .returned (.int .i64 (min t.size (most + 1) : Nat)) ∧ Below w.heap.size w w' := by
  intro N
  induction N with
  | zero => intro t ht; have := T.size_pos t; omega
  | succ N ih =>
    intro t ht most n₀ a c w hm hn hA
    have IH := Lib.hid ih
    clear ih
    have hsz := T.size_eq t
    have HS := Lib.hid hsz
    clear hsz
    have hlc : t.args.length ≤ c ∧ c ≤ maxLen := ⟨hA.1, hA.2.1⟩
    unfold maxLen at hlc
    obtain ⟨hl1, hl2⟩ := hlc
    generalize hL : t.args.length = len at *
    have HL := Lib.hid hL
    clear hL
    have HA := Lib.hid hA
    clear hA
    go_enter Try.func44, Try.ntmps44
    go_wp2
    go_loopw [5, 6] (fun n i wr => ∃ k : Nat, k ≤ len ∧ i = .int .i64 k ∧ n = .int .i64 (min (1 + T.sizes (t.args.take k)) (most + 1) : Nat) ∧ Below (w.heap.size + 1) (w.alloc (tmCells t.head a len c)) wr)
      (fun _ i _ => len - (intOf i).toNat)
    case atStart => exact ⟨0, Nat.zero_le _, rfl, by simp [T.sizes], Below.refl _ _⟩
    case round =>
      obtain ⟨k, hk, rfl, rfl, hB⟩ := hrel
      generalize hm' : min (1 + T.sizes (t.args.take k)) (most + 1) = m at *
      have hmb : m ≤ 501 := by omega
      have HM := Lib.hid hm'
      clear hm'
      have hbox : wr.cell? ⟨w.heap.size, 1, none⟩ = some (.slice a len c) := (hB.cell (p := ⟨w.heap.size, 1, none⟩) (by simp)).trans (by simp [go_sem])
      have HB := Lib.hid hB
      clear hB
      by_cases hlt : k < len
      · by_cases hle : m ≤ most
        · have hw : Below n₀ w wr := ((Below.refl n₀ w).alloc hn _).trans (HB.out.mono (by omega))
          obtain ⟨b, o, s, a', c', rfl, hbn, hs, hwf, hc1, hc2, hA'⟩ := (HA.out.below hw).elem (i := k) (by rw [HL.out]; exact hlt)
          have hs1 : wr.heap.size ≥ w.heap.size + 1 := by have := HB.out.size; simpa using this
          have hsN : s.size ≤ N := by have := T.size_lt_of_mem hs; have := HS.out; omega
          have HSS := Lib.hid hs
          have HA' := Lib.hid hA'
          clear hs hA' hw hwf
          go_wp2_with fail
          rw [show ((most : Int) - (m : Int)) = ((most - m : Nat) : Int) from by omega]
          refine (IH.out s hsN (most - m) n₀ a' c' wr (by omega) (by omega) HA'.out).mono ?_
          rintro e w2 ⟨rfl, hB2⟩
          generalize hr : min s.size (most - m + 1) = r
          have hrb : r ≤ 501 := by omega
          have HR := Lib.hid hr
          have HB2 := Lib.hid hB2
          clear hr hB2
          go_wp2
          go_roundw
          case rel =>
            refine ⟨k + 1, by omega, by go_num, ?_, HB.out.trans (HB2.out.mono (by omega))⟩
            have h1 := HM.out
            have h2 := HR.out
            have h3 := T.sizes_take HSS.out
            rw [show ((m : Int) + (r : Int)) = ((m + r : Nat) : Int) from by omega]
            exact congrArg (fun x : Nat => Value.int .i64 (x : Int)) (by omega)
          case measure => simp [intOf]; omega
        · go_wp2
          go_ret
          refine ⟨?_, (((Below.refl w.heap.size w).alloc (Nat.le_refl _) _).trans (HB.out.mono (by omega)))⟩
          have h1 := HM.out
          have h2 := HS.out
          have h3 := T.sizes_append (t.args.take k) (t.args.drop k)
          rw [List.take_append_drop] at h3
          exact congrArg (fun x : Nat => Ending.returned (.int .i64 (x : Int))) (by omega)
      · go_wp2
        go_ret
        refine ⟨?_, (((Below.refl w.heap.size w).alloc (Nat.le_refl _) _).trans (HB.out.mono (by omega)))⟩
        have h1 := HM.out
        have h2 := HS.out
        rw [List.take_of_length_le (by have := HL.out; omega)] at h1
        exact congrArg (fun x : Nat => Ending.returned (.int .i64 (x : Int))) (by omega)

end Go.Proofs.Ytcbjnfdhghhgeaa

/- Lt0: of Lat, what names no reference. -/
/- Memory of variables; rows of numbers and append. -/
namespace Go.Proofs.Ytcbjnfdhghhgeaa
set_option linter.unusedVariables false
set_option linter.unusedSimpArgs false
open Go.RowKit

theorem T.args_node (h : Int) (ts : List T) : (T.node h ts).args = ts := rfl
theorem var_alloc {w0 w' W : World} (h : Below w0.heap.size w0 w') (hd : Int) (a : Option Addr) (n c : Nat) (hW : Below (w'.alloc (tmCells hd a n c)).heap.size (w'.alloc (tmCells hd a n c)) W) :
    W.cell? ⟨w'.heap.size, 0, none⟩ = some (.int .i64 hd) ∧ W.cell? ⟨w'.heap.size, 1, none⟩ = some (.slice a n c) ∧ Below w0.heap.size w0 W ∧ Below w'.heap.size w' W := by
  refine ⟨(hW.cell (p := ⟨w'.heap.size, 0, none⟩) (by simp)).trans (by simp [go_sem]), (hW.cell (p := ⟨w'.heap.size, 1, none⟩) (by simp)).trans (by simp [go_sem]), ?_, ?_⟩
  · exact (h.alloc h.size _).trans (hW.mono (by have := h.size; simp; omega))
  · exact ((Below.refl _ _).alloc (Nat.le_refl _) _).trans (hW.mono (by simp))

/-- A variable that holds a term, in later worlds. -/
theorem var_term {w0 w' : World} (h : Below w0.heap.size w0 w') (x : T) (a : Option Addr) (c : Nat) (hA : IsArgs w'.heap.size w' x.args a c) (W : World) (hW : Below (w'.alloc (tmCells x.head a x.args.length c)).heap.size (w'.alloc (tmCells x.head a x.args.length c)) W) :
    W.cell? ⟨w'.heap.size, 0, none⟩ = some (.int .i64 x.head) ∧ W.cell? ⟨w'.heap.size, 1, none⟩ = some (.slice a x.args.length c) ∧ Below w0.heap.size w0 W ∧ IsArgs W.heap.size W x.args a c := by
  obtain ⟨h1, h2, h3, h4⟩ := var_alloc h x.head a x.args.length c hW
  exact ⟨h1, h2, h3, (hA.below h4).mono h4.size⟩

def Z0 : T := .node 0 []

theorem isIs_of_owns {base : Nat} {W : World} {v : Value} {p : List Int} (h : W.ownsRow base 3 1 v p.length (p.map (Value.int .i64))) : ∃ a c, v = .slice a p.length c ∧ IsIs W.heap.size W p a c := by
  have hcells := fun g hg => h.cells (g := g) hg
  rcases h.2 with ⟨rfl, h0⟩ | ⟨g, cap, cur, rfl, hg, hh, hn, hc, _⟩
  · exact ⟨none, 0, by rw [h0], by omega, by simp [maxLen], .inl (List.eq_nil_of_length_eq_zero h0)⟩
  · refine ⟨_, cap, rfl, hn, hc, .inr ⟨g, 0, rfl, (Array.getElem?_eq_some_iff.1 hh).1, fun j z hz => ?_⟩⟩
    have := hcells g rfl j (.int .i64 z) (by simp [hz])
    rw [addr_add] at this
    simpa using this

/-- append(v, zs...), where v is a row of one's own. -/
theorem wpList_append_is {w : World} {ops : Array Oper} {rest : List Oper} {o : Oper} {a : Act} {Q : Exit → Act → World → Prop} (hgd : o.guard = none) (s x : Operand)
    (ho : o.op = .call { callee := .builtin .append, args := #[s, x], argTypes := #[46, 46] }) (base : Nat) (v : Value) (n : Nat) (xs : List Value) (hs : a.eval s = v) (hown : w.ownsRow base 3 1 v n xs)
    (zs : List Int) (a' : Option Addr) (c' : Nat) (n₀ : Nat) (hx : a.eval x = .slice a' zs.length c') (hI : IsIs n₀ w zs a' c') (hnil : a' = none → c' = 0) (hl : n + zs.length ≤ 1000000000000) (hbase : base ≤ w.heap.size)
    (h : ∀ v' w', w'.ownsRow base 3 1 v' (n + zs.length) (xs ++ zs.map (Value.int .i64)) → w.grownBy w' v.ownBlock → wpList Try.prog ops Q rest (a.put o.dst v') w') : wpList Try.prog ops Q (o :: rest) a w := by
  obtain ⟨i0, hi, hz0, hz1, hz2⟩ := info_parts info3
  cases a' with
  | none =>
    obtain rfl := hnil rfl
    have h0 : zs = [] := by rcases hI.2.2 with h | ⟨_, _, h, _⟩; exact h; cases h
    subst h0
    refine wpList_append_own_none hgd s x 46 ho base 3 i0 1 Try.underlying46 hi v n xs hs hown hx ?_
    exact h v w (by simpa using hown) ⟨rfl, rfl, rfl, Nat.le_refl _, fun _ _ _ => rfl⟩
  | some ad =>
    refine wpList_append_own w hgd s x 46 ho base 3 i0 (.int .i64 0) 1 8 Try.underlying46 hi hz0 hz1 hz2 rfl (by decide) v n xs hs hown ad zs.length c' (zs.map (Value.int .i64)) hx (by simp) (fun j u hj => ?_) (by intro u hu; obtain ⟨z, _, rfl⟩ := List.mem_map.1 hu; rfl) (by unfold maxLen; omega) (by omega) hbase (fun v' w' h1 h2 _ => h v' w' h1 h2)
    rw [List.getElem?_map, Option.map_eq_some_iff] at hj
    obtain ⟨z, hz, rfl⟩ := hj
    rcases hI.2.2 with rfl | ⟨b, o', e, _, h6⟩
    · simp at hz
    · cases e
      rw [addr_add]
      exact h6 j z hz


end Go.Proofs.Ytcbjnfdhghhgeaa

/- Facts on memory that last: what holds in every later world. -/
namespace Go.Proofs.Ytcbjnfdhghhgeaa
set_option linter.unusedVariables false
set_option linter.unusedSimpArgs false
open Go.RowKit

/-- F holds in W and in every later world. -/
def Later (F : World → Prop) (W : World) : Prop := ∀ W', Below W.heap.size W W' → F W'
theorem Later.now {F : World → Prop} {W : World} (h : Later F W) : F W := h W (Below.refl _ _)
theorem Later.mv {F : World → Prop} {W W' : World} (h : Later F W) (hb : Below W.heap.size W W') : Later F W' := fun X hX => h X (hb.trans (hX.mono hb.size))
theorem Later.and {F G : World → Prop} {W : World} (h : Later F W) (k : Later G W) : Later (fun X => G X ∧ F X) W := fun X hX => ⟨k X hX, h X hX⟩
theorem Later.below {w W : World} (h : Below w.heap.size w W) : Later (fun X => Below w.heap.size w X) W := fun X hX => h.trans (hX.mono h.size)
theorem later_args {W : World} {ts : List T} {a : Option Addr} {c : Nat} (h : IsArgs W.heap.size W ts a c) : Later (fun X => IsArgs X.heap.size X ts a c) W := fun X hX => (h.below hX).mono hX.size
theorem later_is {W : World} {zs : List Int} {a : Option Addr} {c : Nat} (h : IsIs W.heap.size W zs a c) : Later (fun X => IsIs X.heap.size X zs a c) W := fun X hX => (h.below hX).mono hX.size

/-- A variable of type Term: its two cells. -/
def Vc (b : Nat) (h : Int) (a : Option Addr) (n c : Nat) (X : World) : Prop := X.cell? ⟨b, 0, none⟩ = some (.int .i64 h) ∧ X.cell? ⟨b, 1, none⟩ = some (.slice a n c)
theorem later_var (W : World) (h : Int) (a : Option Addr) (n c : Nat) : Later (Vc W.heap.size h a n c) (W.alloc (tmCells h a n c)) := fun X hX =>
  ⟨(hX.cell (p := ⟨W.heap.size, 0, none⟩) (by simp)).trans (by simp [go_sem]), (hX.cell (p := ⟨W.heap.size, 1, none⟩) (by simp)).trans (by simp [go_sem])⟩
/-- A new variable of type Term, laid in a later world. -/
theorem Later.push {F : World → Prop} {W W' : World} (k : Later F W) (hb : Below W.heap.size W W') (h : Int) (a : Option Addr) (n c : Nat) : Later (fun X => Vc W'.heap.size h a n c X ∧ F X) (W'.alloc (tmCells h a n c)) :=
  (k.mv (hb.alloc hb.size _)).and (later_var W' h a n c)
/-- A new variable that holds a term whose arguments lie in memory. -/
theorem Later.pushT {F : World → Prop} {W W' : World} (k : Later F W) (hb : Below W.heap.size W W') (x : T) (a : Option Addr) (c : Nat) (hA : IsArgs W'.heap.size W' x.args a c) : Later (fun X => Vc W'.heap.size x.head a x.args.length c X ∧ IsArgs X.heap.size X x.args a c ∧ F X) (W'.alloc (tmCells x.head a x.args.length c)) :=
  ((k.mv (hb.alloc hb.size _)).and ((later_args hA).mv ((Below.refl _ _).alloc (Nat.le_refl _) _))).and (later_var W' _ a _ c)
theorem heap_alloc_size (W : World) (o : Obj) : (W.alloc o).heap.size = W.heap.size + 1 := by simp

end Go.Proofs.Ytcbjnfdhghhgeaa

/- Substitutions as lists, what they put for variables, and what it means that one lies in memory. -/
namespace Go.Proofs.Ytcbjnfdhghhgeaa
set_option linter.unusedVariables false
set_option linter.unusedSimpArgs false
open Go.RowKit

abbrev Sb := List (Int × T)
def vt (v : Int) : T := .node (-1 - v) []
def ofS : Sb → Int → T
  | [], v => vt v
  | (x, t) :: s, v => if x = v then t else ofS s v
mutual
def T.sub (f : Int → T) : T → T
  | .node h ts => if h < 0 then f (-1 - h) else .node h (T.subl f ts)
def T.subl (f : Int → T) : List T → List T
  | [] => []
  | t :: ts => t.sub f :: T.subl f ts
end
theorem T.subl_map (f : Int → T) (ts : List T) : T.subl f ts = ts.map (T.sub f) := by
  induction ts with
  | nil => rfl
  | cons t ts ih => simp [T.subl, ih]
theorem T.sub_eq (f : Int → T) (t : T) : t.sub f = if t.head < 0 then f (-1 - t.head) else .node t.head (t.args.map (T.sub f)) := by
  cases t; rw [T.sub, T.subl_map]; rfl
theorem T.sub_neg {f : Int → T} {t : T} (h : t.head < 0) : t.sub f = f (-1 - t.head) := by rw [T.sub_eq, if_pos h]
theorem T.sub_pos {f : Int → T} {t : T} (h : ¬ t.head < 0) : t.sub f = .node t.head (t.args.map (T.sub f)) := by rw [T.sub_eq, if_neg h]

/-- Is a list of bindings right, from the variable l on? -/
def rightS (l : Int) : Sb → Bool
  | [] => true
  | (x, t) :: s => (decide (l ≤ x) && decide (x ≤ 255) && decide (t.check = 0) && decide (t.head ≠ -1 - x)) && rightS (x + 1) s

/-! ### A list of bindings in memory -/
def IsB (n₀ : Nat) (W : World) (x : Int × T) (b o : Nat) : Prop := (Lit.int .i64 x.1).wf = true ∧ W.cell? ⟨b, o, none⟩ = some (.int .i64 x.1) ∧ IsT n₀ W x.2 b (o + 1)
def IsBs (n₀ : Nat) (W : World) (s : Sb) (a : Option Addr) (c : Nat) : Prop :=
  s.length ≤ c ∧ c ≤ maxLen ∧ (s = [] ∨ ∃ b o, a = some ⟨b, o, none⟩ ∧ b < n₀ ∧ ∀ (j : Nat) (x : Int × T), s[j]? = some x → IsB n₀ W x b (o + j * 3))
theorem IsBs.below {n₀ : Nat} {w w' : World} {s : Sb} {a : Option Addr} {c : Nat} (h : IsBs n₀ w s a c) (hb : Below n₀ w w') : IsBs n₀ w' s a c := by
  obtain ⟨h1, h2, h3⟩ := h
  refine ⟨h1, h2, ?_⟩
  rcases h3 with h3 | ⟨b, o, h4, h5, h6⟩
  · exact .inl h3
  · refine .inr ⟨b, o, h4, h5, fun j x hx => ?_⟩
    obtain ⟨p1, p2, p3⟩ := h6 j x hx
    exact ⟨p1, (hb.cell (p := ⟨b, _, none⟩) h5).trans p2, p3.below hb h5⟩
theorem IsBs.mono {n₀ n₁ : Nat} {w : World} {s : Sb} {a : Option Addr} {c : Nat} (h : IsBs n₀ w s a c) (hn : n₀ ≤ n₁) : IsBs n₁ w s a c := by
  obtain ⟨h1, h2, h3⟩ := h
  refine ⟨h1, h2, ?_⟩
  rcases h3 with h3 | ⟨b, o, h4, h5, h6⟩
  · exact .inl h3
  · exact .inr ⟨b, o, h4, by omega, fun j x hx => ⟨(h6 j x hx).1, (h6 j x hx).2.1, (h6 j x hx).2.2.mono hn⟩⟩
theorem IsBs.nil (n₀ : Nat) (w : World) (a : Option Addr) {c : Nat} (hc : c ≤ maxLen) : IsBs n₀ w [] a c := ⟨by simp, hc, .inl rfl⟩
theorem later_bs {W : World} {s : Sb} {a : Option Addr} {c : Nat} (h : IsBs W.heap.size W s a c) : Later (fun X => IsBs X.heap.size X s a c) W := fun X hX => (h.below hX).mono hX.size
/-- The element i of a list of bindings: its three cells. -/
theorem IsBs.elem {n₀ : Nat} {w : World} {s : Sb} {a : Option Addr} {c : Nat} (h : IsBs n₀ w s a c) {i : Nat} (hi : i < s.length) :
    ∃ (b o : Nat) (v : Int) (t : T) (a' : Option Addr) (c' : Nat), a = some ⟨b, o, none⟩ ∧ b < n₀ ∧ s[i]? = some (v, t) ∧ (Lit.int .i64 v).wf = true ∧ (Lit.int .i64 t.head).wf = true ∧ w.cell? ⟨b, o + i * 3, none⟩ = some (.int .i64 v) ∧ w.cell? ⟨b, o + i * 3 + 1, none⟩ = some (.int .i64 t.head) ∧
      w.cell? ⟨b, o + i * 3 + 2, none⟩ = some (.slice a' t.args.length c') ∧ IsArgs n₀ w t.args a' c' := by
  obtain ⟨_, _, h3⟩ := h
  rcases h3 with rfl | ⟨b, o, rfl, h4, h5⟩
  · simp at hi
  · obtain ⟨p0, p1, p2⟩ := h5 i _ (List.getElem?_eq_getElem hi)
    obtain ⟨q0, q1, a', c', q2, q3⟩ := isT_iff.1 p2
    exact ⟨b, o, s[i].1, s[i].2, a', c', rfl, h4, List.getElem?_eq_getElem hi, p0, q0, p1, q1, q2, q3⟩

theorem rightS_step {l : Int} {s : Sb} {k : Nat} {x : Int} {t : T} (h : s[k]? = some (x, t)) : rightS l (s.drop k) = ((decide (l ≤ x) && decide (x ≤ 255) && decide (t.check = 0) && decide (t.head ≠ -1 - x)) && rightS (x + 1) (s.drop (k + 1))) := by
  obtain ⟨hk, e⟩ := List.getElem?_eq_some_iff.1 h
  rw [List.drop_eq_getElem_cons hk, e, rightS]
theorem ofS_step {s : Sb} {k : Nat} {x : Int} {t : T} (v : Int) (h : s[k]? = some (x, t)) : ofS (s.drop k) v = if x = v then t else ofS (s.drop (k + 1)) v := by
  obtain ⟨hk, e⟩ := List.getElem?_eq_some_iff.1 h
  rw [List.drop_eq_getElem_cons hk, e, ofS]

/-! ### Small contracts -/
theorem sIsVar_any (h : Int) (a : Option Addr) (k c : Nat) (v : Int) (w : World) (h1 : -9223372036854775808 ≤ v) (h2 : v ≤ 9223372036854775807) :
    Calls Try.prog 50 #[tm h a k c, .int .i64 v] w fun e w' => e = .returned (.bool (decide (h = -1 - v))) ∧ Below w.heap.size w w' := by
  have hb := (Below.refl w.heap.size w).alloc (Nat.le_refl _) (tmCells h a k c)
  have HB := Lib.hid hb
  clear hb
  go_enter Try.func50, Try.ntmps50
  go_wp2
  go_ret
  refine ⟨?_, HB.out⟩
  congr 2

theorem sVariable_any (v : Int) (w : World) (h1 : -9223372036854775808 ≤ v) (h2 : v ≤ 9223372036854775807) :
    Calls Try.prog 74 #[.int .i64 v] w fun e w' => e = .returned (tm (-1 - v) none 0 0) ∧ Below w.heap.size w w' := by
  go_enter Try.func74, Try.ntmps74
  go_wp2
  exact bodyPost_ret (v := tm (-1 - v) none 0 0) (by simp [results, Try.results74, go_sem]) rfl ⟨rfl, ((Below.refl _ _).alloc (Nat.le_refl _) _)⟩

end Go.Proofs.Ytcbjnfdhghhgeaa
