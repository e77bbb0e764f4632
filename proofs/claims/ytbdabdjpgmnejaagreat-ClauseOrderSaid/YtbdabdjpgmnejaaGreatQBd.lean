/- QBd: joined of SrF, Check, Sz0, Va0. -/
import Derived.Test.YtbdabdjpgmnejaaGreatQBa
import Derived.Test.YtbdabdjpgmnejaaGreatQBc
import Derived.Test.YtbdabdjpgmnejaaGreatQBb
import Derived.Shelf.SlSortCmp.WholeK
import Derived.Maps.OwnIn
/- The library's sort by a function of one's own, at rows of terms: plain facts and the contract, for any function that compares terms and lays but blocks of its own. -/
namespace Go.Proofs
open Go.Shelf
def Tryz.sortT_ren : Go.Shelf.Ren := ⟨fun | 6 => 142 | 15 => 155 | 14 => 154 | 28 => 170 | 29 => 171 | 20 => 162 | 21 => 163 | 22 => 164 | 23 => 165 | 24 => 166 | 25 => 167 | 26 => 168 | 27 => 169 | 46 => 175 | 47 => 176 | 48 => 177 | 49 => 178 | 50 => 179 | 57 => 182 | n => n, fun | 22 => 32 | 24 => 34 | 25 => 125 | 3 => 3 | 39 => 154 | 0 => 0 | 53 => 168 | 55 => 170 | 4 => 4 | 46 => 162 | 45 => 161 | 50 => 127 | 5 => 5 | 9 => 9 | 66 => 173 | 70 => 177 | 76 => 180 | 77 => 181 | n => n, fun | n => n⟩
theorem Tryz.sortT : Go.Proofs.SlLaysF0.n6 Tryz.prog Tryz.sortT_ren := {
  mixed := by kernel_rfl
  f6 := ⟨Tryz.f142.name, by decide, Tryz.func142.trans (congrArg some (by kernel_rfl))⟩
  f14 := ⟨Tryz.f154.name, by decide, Tryz.func154.trans (congrArg some (by kernel_rfl))⟩
  f15 := Tryz.func155.trans (congrArg some (by kernel_rfl))
  f20 := ⟨Tryz.f162.name, by decide, Tryz.func162.trans (congrArg some (by kernel_rfl))⟩
  f21 := ⟨Tryz.f163.name, by decide, Tryz.func163.trans (congrArg some (by kernel_rfl))⟩
  f22 := ⟨Tryz.f164.name, by decide, Tryz.func164.trans (congrArg some (by kernel_rfl))⟩
  f23 := ⟨Tryz.f165.name, by decide, Tryz.func165.trans (congrArg some (by kernel_rfl))⟩
  f24 := ⟨Tryz.f166.name, by decide, Tryz.func166.trans (congrArg some (by kernel_rfl))⟩
  f25 := ⟨Tryz.f167.name, by decide, Tryz.func167.trans (congrArg some (by kernel_rfl))⟩
  f26 := ⟨Tryz.f168.name, by decide, Tryz.func168.trans (congrArg some (by kernel_rfl))⟩
  f27 := ⟨Tryz.f169.name, by decide, Tryz.func169.trans (congrArg some (by kernel_rfl))⟩
  f28 := Tryz.func170.trans (congrArg some (by kernel_rfl))
  f29 := Tryz.func171.trans (congrArg some (by kernel_rfl))
  f46 := ⟨Tryz.f175.name, by decide, Tryz.func175.trans (congrArg some (by kernel_rfl))⟩
  f47 := Tryz.func176.trans (congrArg some (by kernel_rfl))
  f48 := Tryz.func177.trans (congrArg some (by kernel_rfl))
  f49 := ⟨Tryz.f178.name, by decide, Tryz.func178.trans (congrArg some (by kernel_rfl))⟩
  f50 := ⟨Tryz.f179.name, by decide, Tryz.func179.trans (congrArg some (by kernel_rfl))⟩
  f57 := ⟨Tryz.f182.name, by decide, Tryz.func182.trans (congrArg some (by kernel_rfl))⟩
  t0 := Tryz.underlying0
  a0 := Tryz.isAgg0
  z0 := Tryz.sizeOf0
  v0 := Tryz.zeroValue0
  t3 := Tryz.underlying3
  a3 := Tryz.isAgg3
  z3 := Tryz.sizeOf3
  v3 := Tryz.zeroValue3
  t4 := Tryz.underlying4
  a4 := Tryz.isAgg4
  z4 := Tryz.sizeOf4
  v4 := Tryz.zeroValue4
  t5 := Tryz.underlying5
  a5 := Tryz.isAgg5
  z5 := Tryz.sizeOf5
  v5 := Tryz.zeroValue5
  t9 := Tryz.underlying9
  a9 := Tryz.isAgg9
  z9 := Tryz.sizeOf9
  v9 := Tryz.zeroValue9
  t22 := Tryz.underlying32
  a22 := Tryz.isAgg32
  z22 := Tryz.sizeOf32
  v22 := Tryz.zeroValue32
  t25 := Tryz.underlying125
  a25 := Tryz.isAgg125
  z25 := Tryz.sizeOf125
  v25 := Tryz.zeroValue125
  t39 := Tryz.underlying154
  a39 := Tryz.isAgg154
  z39 := Tryz.sizeOf154
  v39 := Tryz.zeroValue154
  t45 := Tryz.underlying161
  a45 := Tryz.isAgg161
  z45 := Tryz.sizeOf161
  v45 := Tryz.zeroValue161
  t46 := Tryz.underlying162
  a46 := Tryz.isAgg162
  z46 := Tryz.sizeOf162
  v46 := Tryz.zeroValue162
  t50 := Tryz.underlying127
  a50 := Tryz.isAgg127
  z50 := Tryz.sizeOf127
  v50 := Tryz.zeroValue127
  t53 := Tryz.underlying168
  a53 := Tryz.isAgg168
  z53 := Tryz.sizeOf168
  v53 := Tryz.zeroValue168
  t55 := Tryz.underlying170
  a55 := Tryz.isAgg170
  z55 := Tryz.sizeOf170
  v55 := Tryz.zeroValue170
  t66 := Tryz.underlying173
  a66 := Tryz.isAgg173
  z66 := Tryz.sizeOf173
  v66 := Tryz.zeroValue173
  t70 := Tryz.underlying177
  a70 := Tryz.isAgg177
  z70 := Tryz.sizeOf177
  v70 := Tryz.zeroValue177
  t76 := Tryz.underlying180
  a76 := Tryz.isAgg180
  z76 := Tryz.sizeOf180
  v76 := Tryz.zeroValue180
  t77 := Tryz.underlying181
  a77 := Tryz.isAgg181
  z77 := Tryz.sizeOf181
  v77 := Tryz.zeroValue181 }
end Go.Proofs
namespace Go.Proofs.YtbdabdjpgmnejaaGreat
set_option linter.unusedVariables false
set_option linter.unusedSimpArgs false
open Go.RowKit

theorem grow_of {W w' : World} (h : Below W.heap.size W w') (hd : W.drawn ≤ w'.drawn) : ∃ q os, w' = Go.Sort.grow (W.drewN q) os := by
  refine ⟨w'.drawn - W.drawn, w'.heap.extract W.heap.size w'.heap.size, ?_⟩
  obtain ⟨h1, h2, h3, h4, h5⟩ := h
  have hh : w'.heap = W.heap ++ w'.heap.extract W.heap.size w'.heap.size := by
    apply Array.ext_getElem?
    intro i
    by_cases hi : i < W.heap.size
    · rw [Array.getElem?_append_left hi]; exact h5 i hi
    · rw [Array.getElem?_append_right (by omega), Array.getElem?_extract]
      split
      · congr 1; omega
      · rw [Array.getElem?_eq_none (by omega)]
  cases w' with
  | mk a b c d e =>
    simp only [Go.Sort.grow, World.drewN]
    dsimp only at h1 h2 h3 h4 hh hd
    rw [← hh, h1, h2, h3, Nat.add_sub_cancel' hd]

/-! ### At no element -/
set_option maxRecDepth 100000 in
theorem len64_zero' (w : World) : Calls Tryz.prog 171 #[.int .u64 0] w fun e w' => e = .returned (.int .i64 0) ∧ w' = w := by
  go_enter Tryz.func171, Tryz.ntmps171
  go_wp2
  go_ret
  exact ⟨by kernel_rfl, rfl⟩
theorem len_zero' (w : World) : Calls Tryz.prog 155 #[.int .u64 0] w fun e w' => e = .returned (.int .i64 0) ∧ w' = w := by
  go_enter Tryz.func155, Tryz.ntmps155
  go_wp2_with fail
  refine (len64_zero' w).mono ?_
  rintro e w' ⟨rfl, rfl⟩
  go_wp2
  go_ret
  exact ⟨rfl, rfl⟩
set_option maxRecDepth 100000 in
theorem insC_zero (p : Option Addr) (cap : Nat) (fv : Value) (w : World) : Calls Tryz.prog 162 #[.slice p 0 cap, .int .i64 0, .int .i64 0, fv] w fun e w' => e = .returned (.tuple #[]) ∧ w' = w := by
  go_enter Tryz.func162, Tryz.ntmps162
  go_wp2
  refine wp_loop_rounds 1 ?_
  rw [rounds_succ]
  go_wp2
  go_end0
  exact ⟨rfl, rfl⟩
set_option maxRecDepth 100000 in
theorem pdqC_zero (p : Option Addr) (cap : Nat) (fv : Value) (w : World) : Calls Tryz.prog 154 #[.slice p 0 cap, .int .i64 0, .int .i64 0, .int .i64 0, fv] w fun e w' => e = .returned (.tuple #[]) ∧ w' = w := by
  go_enter Tryz.func154, Tryz.ntmps154
  go_wp2
  refine wp_loop_rounds 1 ?_
  rw [rounds_succ]
  go_wp2_with fail
  refine (insC_zero p cap fv _).mono ?_
  rintro e w' ⟨rfl, rfl⟩
  go_wp2
  (try simp only [Exit.inBlock, Exit.then])
  refine bodyPost_ret (v := .tuple #[]) (by simp [results, Tryz.results154, go_sem]) rfl ?_
  exact ⟨rfl, rfl⟩
set_option maxRecDepth 100000 in
theorem sortC_zero (p : Option Addr) (cap : Nat) (fv : Value) (w : World) : Calls Tryz.prog 142 #[.slice p 0 cap, fv] w fun e w' => e = .returned (.tuple #[]) ∧ w' = w := by
  go_enter Tryz.func142, Tryz.ntmps142
  go_wp2_with fail
  refine (len_zero' _).mono ?_
  rintro e w' ⟨rfl, rfl⟩
  go_wp2_with fail
  refine (pdqC_zero p cap fv _).mono ?_
  rintro e w' ⟨rfl, rfl⟩
  go_wp2
  refine bodyPost_end (v := .tuple #[]) (by simp [results, Tryz.results142, go_sem]) rfl ?_
  exact ⟨rfl, rfl⟩

/-- What a function that is handed to the sort must be. -/
def CmpT (f : Nat) (cf : T → T → Int) (n₀ : Nat) (w : World) (ts : List T) : Prop :=
  ∀ (x y : T) (a : Option Addr) (c : Nat) (a' : Option Addr) (c' : Nat) (W : World), x ∈ ts → y ∈ ts → Below n₀ w W → (Lit.int .i64 x.head).wf = true → (Lit.int .i64 y.head).wf = true → IsArgs n₀ W x.args a c → IsArgs n₀ W y.args a' c' →
    Calls Tryz.prog f #[tm x.head a x.args.length c, tm y.head a' y.args.length c'] W fun e w' => e = .returned (.int .i64 (cf x y)) ∧ Below W.heap.size W w'

/-- An element of the row: a term of the row, with where its arguments lie. -/
structure El (n₀ : Nat) (w : World) (ts : List T) where
  t : T
  a : Option Addr
  c : Nat
  mem : t ∈ ts
  wf : (Lit.int .i64 t.head).wf = true
  args : IsArgs n₀ w t.args a c
def El.enc {n₀ : Nat} {w : World} {ts : List T} (x : El n₀ w ts) : List Value := [.int .i64 x.t.head, .slice x.a x.t.args.length x.c]

theorem els_of {n₀ : Nat} {w : World} {g : Nat} (all : List T) : ∀ (ts : List T) (o : Nat), (∀ t ∈ ts, t ∈ all) → IsRow n₀ w ts g o → ∃ d : List (El n₀ w all), d.map El.t = ts ∧ ∀ (j : Nat) (x : El n₀ w all), d[j]? = some x → w.cell? ⟨g, o + j * 2, none⟩ = some (.int .i64 x.t.head) ∧ w.cell? ⟨g, o + j * 2 + 1, none⟩ = some (.slice x.a x.t.args.length x.c)
  | [], o, _, _ => ⟨[], rfl, by simp⟩
  | t :: ts, o, hm, h => by
    simp only [IsRow] at h
    obtain ⟨ht, hr⟩ := h
    obtain ⟨d, h1, h2⟩ := els_of all ts (o + 2) (fun s hs => hm s (List.mem_cons_of_mem _ hs)) hr
    obtain ⟨wf, p1, a, c, p2, hA⟩ := isT_iff.1 ht
    refine ⟨⟨t, a, c, hm t (List.mem_cons_self ..), wf, hA⟩ :: d, by simp [h1], fun j x hj => ?_⟩
    cases j with
    | zero => simp at hj; subst hj; simpa using ⟨p1, p2⟩
    | succ j =>
      have := h2 j x (by simpa using hj)
      rw [show o + 2 + j * 2 = o + (j + 1) * 2 from by omega] at this
      exact this

theorem row_of_els {n₀ : Nat} {w w' : World} {g : Nat} {all : List T} (hb : Below n₀ w w') : ∀ (d : List (El n₀ w all)) (o : Nat), (∀ (j : Nat) (x : El n₀ w all), d[j]? = some x → w'.cell? ⟨g, o + j * 2, none⟩ = some (.int .i64 x.t.head) ∧ w'.cell? ⟨g, o + j * 2 + 1, none⟩ = some (.slice x.a x.t.args.length x.c)) → IsRow n₀ w' (d.map El.t) g o
  | [], o, _ => trivial
  | x :: d, o, h => by
    obtain ⟨h1, h2⟩ := h 0 x rfl
    simp only [List.map_cons, IsRow]
    refine ⟨isT_iff.2 ⟨x.wf, by simpa using h1, x.a, x.c, by simpa using h2, x.args.below hb⟩, row_of_els hb d (o + 2) (fun j y hj => ?_)⟩
    have := h (j + 1) y (by simpa using hj)
    rw [show o + (j + 1) * 2 = o + 2 + j * 2 from by omega] at this
    exact this

theorem sortT_any (f : Nat) (eg : ∀ args w, (callFunc f args).run Tryz.prog w = .ok (.enter f args) w) (cf : T → T → Int) (hO : ∀ {α : Type} (k : α → T), Go.Sort.SWO (Go.Proofs.ltOf fun x y => cf (k x) (k y))) (ts : List T) (hts : ts.length ≤ 1000000000000)
    (n₀ g cap : Nat) (w : World) (hn : n₀ ≤ g) (hg : g < w.heap.size) (hR : IsRow n₀ w ts g 0) (hfr : ∀ j, j < ts.length * 2 → w.frozen? ⟨g, j, none⟩ = false) (hC : CmpT f cf n₀ w ts) :
    Calls Tryz.prog 142 #[.slice (some ⟨g, 0, none⟩) ts.length cap, .func (.func f) #[] #[]] w fun e w' =>
      e = .returned (.tuple #[]) ∧ ∃ us, us.Perm ts ∧ us.Pairwise (fun x y => 0 ≤ cf y x) ∧ IsRow n₀ w' us g 0 ∧ w.grownBy w' (some g) := by
  cases hne : ts with
  | nil =>
    subst hne
    refine (sortC_zero (some ⟨g, 0, none⟩) cap _ w).mono ?_
    rintro e w' ⟨rfl, rfl⟩
    exact ⟨rfl, [], List.Perm.refl _, List.Pairwise.nil, trivial, ⟨rfl, rfl, rfl, Nat.le_refl _, fun _ _ _ => rfl⟩⟩
  | cons t0 ts0 =>
    rw [← hne]
    obtain ⟨d, hd1, hd2⟩ := els_of ts ts 0 (fun _ h => h) hR
    have hdl : d.length = ts.length := by have := congrArg List.length hd1; simpa using this
    have x0 : El n₀ w ts := d[0]'(by rw [hdl, hne]; simp)
    haveI : Inhabited (El n₀ w ts) := ⟨x0⟩
    have henc : ∀ (x : El n₀ w ts), x.enc.length = 2 := fun _ => rfl
    have h1 : ∀ (x : El n₀ w ts), ∀ v ∈ x.enc, v.oneCell' = true := fun x v hv => by
      simp only [El.enc, List.mem_cons, List.not_mem_nil, or_false] at hv
      rcases hv with rfl | rfl <;> rfl
    have hH : Go.Sort.HoldsK (El.enc) 2 w g 0 d.toArray := by
      intro j hj
      rw [Go.Sort.size_flatK] at hj
      rw [Go.Sort.get_flatK _ _ _ _ hj, Nat.zero_add]
      have hj2 : j < d.length * 2 := by simpa using hj
      have hi : j / 2 < d.length := by omega
      have hx : d.toArray[j / 2]! = d[j / 2] := by simp [hi]
      obtain ⟨c0, c1⟩ := hd2 (j / 2) d[j / 2] (List.getElem?_eq_getElem hi)
      refine ⟨?_, hfr j (by omega)⟩
      obtain ⟨x, hxx⟩ : ∃ x, d[j / 2] = x := ⟨_, rfl⟩
      rw [hxx] at hx c0 c1
      rw [hx]
      clear hxx
      rcases Nat.mod_two_eq_zero_or_one j with h | h
      · rw [h, show j = 0 + j / 2 * 2 from by omega]; simpa [El.enc] using c0
      · rw [h, show j = 0 + j / 2 * 2 + 1 from by omega]; simpa [El.enc] using c1
    have hW : ∀ (m : Nat) (os : Array Obj) (dk : Array (El n₀ w ts)), Below n₀ w (Go.Proofs.sortWorldK El.enc 2 w g 0 m dk os) := fun m os dk => by
      refine ⟨rfl, rfl, rfl, Go.Proofs.size_sortWorldK_c El.enc 2 w g 0 m dk os, fun k hk => ?_⟩
      unfold Go.Proofs.sortWorldK
      rw [Go.Sort.heap_grow_old _ _ (by rw [Go.Sort.size_putRowK]; show k < w.heap.size; omega)]
      unfold Go.Sort.putRowK Go.Sort.putRow Go.Sort.mapBlock
      simp only [Array.getElem?_modify]
      rw [if_neg (by omega)]
      rfl
    have hcmp : Go.Proofs.CmpLays Tryz.prog f #[] El.enc 2 (fun x y : El n₀ w ts => cf x.t y.t) g 0 d.toArray.size w := by
      intro m os dk hs x y
      refine (Calls.drawn (hC x.t y.t x.a x.c y.a y.c _ x.mem y.mem (hW m os dk) x.wf y.wf (x.args.below (hW m os dk)) (y.args.below (hW m os dk)))).mono ?_
      rintro e w' ⟨⟨rfl, hb⟩, hd⟩
      rcases hd with hd | hd
      · cases hd
      · exact ⟨rfl, grow_of hb hd⟩
    have h := AnyQ.slices_SortFunc Tryz.sortT 2 Tryz.isAgg34 Tryz.sizeOf34 El.enc henc h1 (fun x y : El n₀ w ts => cf x.t y.t) (hO El.t) f #[] g 0 cap d.toArray w eg hcmp hH hg (by simp; omega)
    rw [show d.toArray.size = ts.length from by simpa using hdl] at h
    refine h.mono ?_
    rintro e w' ⟨rfl, d', n, os, hp, hs, rfl⟩
    obtain ⟨hp1, _, hp3⟩ := hp
    have hsz : d'.size = ts.length := by rw [hp1]; simpa using hdl
    have e1 : d'.extract 0 ts.length = d' := by rw [← hsz]; simp
    have e2 : d.toArray.extract 0 ts.length = d.toArray := by rw [← hdl]; simp
    have hH' := Go.Proofs.holdsK_sortWorldK_c El.enc 2 w g 0 d.toArray d' n os hH hg (by rw [hsz]; simp [hdl])
    refine ⟨rfl, d'.toList.map El.t, ?_, ?_, ?_, ?_⟩
    · rw [e1, e2] at hp3
      exact (hp3.map El.t).trans (List.Perm.of_eq (by simpa using hd1))
    · rw [List.pairwise_map, List.pairwise_iff_getElem]
      intro i j hi hj hij
      have hj' : j < d'.size := by simpa using hj
      have hi' : i < d'.size := by simpa using hi
      have := hs i j (Nat.zero_le _) hij (by omega)
      unfold Go.Proofs.ltOf at this
      rw [decide_eq_false_iff_not] at this
      simp only [hj', hi', getElem!_pos] at this
      simp only [Array.getElem_toList]
      omega
    · refine row_of_els (hW n os d') d'.toList 0 (fun j x hj => ?_)
      obtain ⟨hjl, hje⟩ := List.getElem?_eq_some_iff.1 hj
      have hj' : j < d'.size := by simpa using hjl
      have hx : d'[j]! = x := by rw [← hje]; simp [hj']
      have q0 := (hH'.cell (i := j) (c := 0) hj' (by omega)).1
      have q1 := (hH'.cell (i := j) (c := 1) hj' (by omega)).1
      rw [hx] at q0 q1
      exact ⟨by simpa [El.enc] using q0, by simpa [El.enc] using q1⟩
    · refine ⟨rfl, rfl, rfl, Go.Proofs.size_sortWorldK_c El.enc 2 w g 0 n d' os, fun k hk hkg => ?_⟩
      unfold Go.Proofs.sortWorldK
      rw [Go.Sort.heap_grow_old _ _ (by rw [Go.Sort.size_putRowK]; exact hk)]
      unfold Go.Sort.putRowK Go.Sort.putRow Go.Sort.mapBlock
      simp only [Array.getElem?_modify]
      rw [if_neg (fun e => hkg (by rw [e]))]
      rfl

end Go.Proofs.YtbdabdjpgmnejaaGreat

/- Check: joined of Sz, Check. -/
/- The depth of terms, and small lemmas for loops over the iterator of subterms. -/
namespace Go.Proofs.YtbdabdjpgmnejaaGreat
set_option linter.unusedVariables false
set_option linter.unusedSimpArgs false
open Go.RowKit Go.Shelf
attribute [local go_sem] Oper.semAt_some

theorem fold2 (t : Array Value) (p q : Tmp) (u v : Value) : (#[p, q].zip #[u, v]).foldl (fun t (x : Tmp × Value) => t.setIfInBounds x.1 x.2) t = (t.setIfInBounds p u).setIfInBounds q v := by simp

mutual
def T.depth : T → Nat
  | .node _ ts => T.depths ts + 1
def T.depths : List T → Nat
  | [] => 0
  | t :: ts => max t.depth (T.depths ts)
end
theorem T.depth_pos (t : T) : 1 ≤ t.depth := by cases t; simp [T.depth]
def mx (m : Nat) (pre : List (Nat × T)) : Nat := pre.foldl (fun m x => max m x.1) m
mutual
theorem mx_subs (m l : Nat) (hl : 1 ≤ l) (hm : l ≤ m + 1) : (t : T) → mx m (T.subs l t) = max m (l + t.depth - 1)
  | .node h ts => by
    have h1 := mx_subss (max m l) (l + 1) (by omega) (by omega) ts
    simp only [mx, T.subs, List.foldl_cons, T.depth] at h1 ⊢
    rw [h1]; omega
theorem mx_subss (m l : Nat) (hl : 1 ≤ l) (hm : l ≤ m + 1) : (ts : List T) → mx m (T.subss l ts) = max m (l + T.depths ts - 1)
  | [] => by simp [mx, T.subss, T.depths]; omega
  | t :: ts => by
    have h1 := mx_subs m l hl hm t
    have h2 := mx_subss (max m (l + t.depth - 1)) l hl (by omega) ts
    simp only [mx, T.subss, List.foldl_append, T.depths] at h1 h2 ⊢
    rw [h1, h2]; omega
end
theorem mx_all (t : T) : mx 0 (T.subs 1 t) = t.depth := by rw [mx_subs 0 1 (by omega) (by omega)]; have := t.depth_pos; omega
theorem mx_snoc (m : Nat) (pre : List (Nat × T)) (x : Nat × T) : mx m (pre ++ [x]) = max (mx m pre) x.1 := by simp [mx]

end Go.Proofs.YtbdabdjpgmnejaaGreat

/- Contract of Check: a loop over the iterator of subterms that may leave early. -/
namespace Go.Proofs.YtbdabdjpgmnejaaGreat
set_option linter.unusedVariables false
set_option linter.unusedSimpArgs false
open Go.RowKit Go.Shelf
attribute [local go_sem] Oper.semAt_some

/-- Is a subterm among these that is not allowed? -/
def bad (pre : List (Nat × T)) : Bool := pre.any (fun x => !okB x.2.head x.2.args.length)
theorem bad_snoc (pre : List (Nat × T)) (x : Nat × T) : bad (pre ++ [x]) = (bad pre || !okB x.2.head x.2.args.length) := by simp [bad]

/-- What Check answers. -/
def T.check (t : T) : Int := if 400 < t.size then 2 else if 40 < t.depth then 7 else if bad (T.subs 1 t) then 1 else 0

theorem wf_low {h : Int} (hw : (Lit.int .i64 h).wf = true) : -9223372036854775808 ≤ h ∧ h ≤ 9223372036854775807 := by
  simp [Lit.wf, IntKind.min, IntKind.max, IntKind.signed, IntKind.bits] at hw
  omega

theorem boxed_other {W : World} {B B' : Nat} {t : TypeId} {v : Value} (h : Boxed W B t v) (hne : B ≠ B') (o : Nat) (u : Value) : Boxed (W.setCell ⟨B', o, none⟩ u) B t v := (Below.heap_setCell W ⟨B', o, none⟩ u B hne).trans h
theorem boxed_below {W W' : World} {B n : Nat} {t : TypeId} {v : Value} (h : Boxed W B t v) (hb : Below n W W') (hB : B < n) : Boxed W' B t v := (hb.block B hB).trans h

theorem boxed_new_at {W : World} {k : Nat} (h : k = W.heap.size) (t : TypeId) (v : Value) : Boxed (W.alloc (.cells #[v] t)) k t v := by subst h; exact Boxed.new W t v

/-- The variables of Check between two rounds. -/
def ChkI (w : World) (pre : List (Nat × T)) (W : World) : Prop :=
  Boxed W (w.heap.size + 1) 25 (.int .i64 0) ∧ Boxed W (w.heap.size + 1 + 1) 3 (.int .i64 (pre.length : Nat)) ∧ Boxed W (w.heap.size + 1 + 1 + 1) 3 (.int .i64 (mx 0 pre : Nat)) ∧
    Boxed W (w.heap.size + 1 + 1 + 1 + 1) 4 (.bool (bad pre)) ∧ pre.length ≤ 400 ∧ Below w.heap.size w W
def ChkX (w : World) (c : Code) (pre : List (Nat × T)) (W : World) : Prop := c = .ret ∧ Boxed W (w.heap.size + 1) 25 (.int .i64 2) ∧ 400 < pre.length ∧ Below w.heap.size w W

set_option maxRecDepth 100000 in
set_option maxHeartbeats 2000000 in
theorem check_any (t : T) (ht : t.size ≤ 1000000000000) (n₀ : Nat) (a : Option Addr) (c : Nat) (w : World) (hn : n₀ ≤ w.heap.size) (hwf : (Lit.int .i64 t.head).wf = true) (hA : IsArgs n₀ w t.args a c) :
    Calls Tryz.prog 62 #[tm t.head a t.args.length c] w fun e w' => e = .returned (.int .i64 t.check) ∧ Below w.heap.size w w' := by
  have HA := Lib.hid (hA.mono hn)
  clear hA hn n₀
  refine (callsIn_wide (n := 9)).1 ?_
  refine callsIn_of_wp_marks Tryz.func62 rfl trivial ?_ rfl
  simp only [Tryz.ntmps62, List.size_toArray, List.length_cons, List.length_nil, Nat.reduceAdd, Nat.reduceSub, Array.replicate_succ, Array.replicate_zero, List.push_toArray, List.append_toArray, List.nil_append, List.cons_append]
  gi_wp2_with (refine ⟨trivial, ?_⟩; gi_at_call 82; refine (callsIn_wide.2 (subterms_any _ _ _ _ _)).mono ?_; rintro e w' ⟨rfl, rfl⟩)
  obtain ⟨W3, hW3⟩ : ∃ W3, ((((((w.alloc (tmCells t.head a t.args.length c)).alloc (.cells #[.int .i64 0] 25)).alloc (.cells #[.int .i64 0] 3)).alloc (.cells #[.int .i64 0] 3)).alloc (.cells #[.bool false] 4)).alloc (tmCells t.head a t.args.length c)) = W3 := ⟨_, rfl⟩
  have hB3 : Below w.heap.size w W3 := by rw [← hW3]; exact ((((((Below.refl _ w).alloc (Nat.le_refl _) _).alloc (by simp) _).alloc (by simp; omega) _).alloc (by simp; omega) _).alloc (by simp; omega) _).alloc (by simp; omega) _
  have g1 : Boxed W3 (w.heap.size + 1) 25 (.int .i64 0) := by rw [← hW3]; exact ((((boxed_new_at (by simp) _ _).alloc _).alloc _).alloc _).alloc _
  have g2 : Boxed W3 (w.heap.size + 1 + 1) 3 (.int .i64 0) := by rw [← hW3]; exact (((boxed_new_at (by simp) _ _).alloc _).alloc _).alloc _
  have g3 : Boxed W3 (w.heap.size + 1 + 1 + 1) 3 (.int .i64 0) := by rw [← hW3]; exact ((boxed_new_at (by simp) _ _).alloc _).alloc _
  have g4 : Boxed W3 (w.heap.size + 1 + 1 + 1 + 1) 4 (.bool false) := by rw [← hW3]; exact (boxed_new_at (by simp) _ _).alloc _
  have f3 : W3.cell? ⟨w.heap.size + 1 + 1 + 1 + 1 + 1, 0, none⟩ = some (.int .i64 t.head) := by rw [← hW3]; simp [go_sem]
  have f4 : W3.cell? ⟨w.heap.size + 1 + 1 + 1 + 1 + 1, 1, none⟩ = some (.slice a t.args.length c) := by rw [← hW3]; simp [go_sem]
  have hs : W3.heap.size = w.heap.size + 6 := by rw [← hW3]; simp
  rw [hW3]
  clear hW3
  refine wpIn_rangeB rfl (by omega) (gf := 118) (lb := #[.pointer (some ⟨w.heap.size + 1 + 1 + 1 + 1 + 1, 0, none⟩)]) rfl trivial (enters_of Tryz.func118 (by kernel_rfl) rfl)
    (subterms_seq Fence.wide 8 trivial rfl (by omega) t ht (w.heap.size + 1 + 1 + 1 + 1 + 1) w.heap.size a c W3 (by omega) (by omega) hwf f3 f4 (HA.out.below hB3)) (Below.refl _ _) (by omega) (fun _ _ _ _ h => h.size) (fun _ _ _ _ _ h hb => h.below hb)
    (ChkI w) (ChkX w)
    (fun pre X Y h hb => ⟨boxed_below h.1 hb (by omega), boxed_below h.2.1 hb (by omega), boxed_below h.2.2.1 hb (by omega), boxed_below h.2.2.2.1 hb (by omega), h.2.2.2.2.1, h.2.2.2.2.2.trans (hb.mono (by omega))⟩)
    (fun c pre X Y h hb => ⟨h.1, boxed_below h.2.1 hb (by omega), h.2.2.1, h.2.2.2.trans (hb.mono (by omega))⟩)
    ⟨g1, g2, g3, g4, by simp, hB3⟩
    (fun x _ a' W => ∃ Bx a1 c1, W3.heap.size ≤ Bx ∧ W.cell? ⟨Bx, 0, none⟩ = some (.int .i64 x.2.head) ∧ W.cell? ⟨Bx, 1, none⟩ = some (.slice a1 x.2.args.length c1) ∧ (Lit.int .i64 x.2.head).wf = true ∧ a' = { tmps := #[tm t.head a t.args.length c, Value.pointer (some ⟨w.heap.size, 0, none⟩), Value.pointer (some ⟨w.heap.size + 1, 0, none⟩), Value.pointer (some ⟨w.heap.size + 1 + 1, 0, none⟩), Value.pointer (some ⟨w.heap.size + 1 + 1 + 1, 0, none⟩), Value.pointer (some ⟨w.heap.size + 1 + 1 + 1 + 1, 0, none⟩), Value.int .i64 x.1, Value.pointer (some ⟨Bx, 0, none⟩), Value.agg #[Value.int IntKind.i64 t.head, Value.slice a t.args.length c], Value.func (Fn.func 118) #[] #[Value.pointer (some ⟨w.heap.size + 1 + 1 + 1 + 1 + 1, 0, none⟩)], Value.int .i64 x.1, tm x.2.head a1 x.2.args.length c1, undef, undef, undef, undef, undef, undef, undef, undef, undef, undef, undef, undef, undef, undef, undef, undef], defers := [] })
    (fun x vs a' W l o o' hl ho hoc ⟨Bx, a1, c1, h1, h2, h3, h4, h5⟩ => ⟨Bx, a1, c1, h1, cell_kept h2 (grownBy_putObj' W l o') (fun r e => by cases e; exact ⟨o, ho, hoc⟩), cell_kept h3 (grownBy_putObj' W l o') (fun r e => by cases e; exact ⟨o, ho, hoc⟩), h4, h5⟩) ?assign ?body ?done ?stop
  case assign =>
    rintro l pre x vs W K hsz hi ⟨_, hxw, a1, c1, rfl, _⟩ hK
    have hsz' : w.heap.size + 6 ≤ W.heap.size := by omega
    simp only [fold2, List.setIfInBounds_toArray, List.set]
    gi_wp2
    refine hK _ _ ((Kept.refl _ _ _).alloc (by omega) _) ?_ ⟨W.heap.size, a1, c1, hsz, by simp [go_sem], by simp [go_sem], hxw, rfl⟩
    obtain ⟨k1, k2, k3, k4, k5, k6⟩ := hi
    exact ⟨k1.alloc _, k2.alloc _, k3.alloc _, k4.alloc _, k5, k6.alloc (by omega) _⟩
  case body =>
    rintro l pre x vs a' W hsz ⟨k1, k2, k3, k4, k5, k6⟩ hm ⟨Bx, a1, c1, hBx, hx1, hx2, hxw, rfl⟩
    clear hm
    have hz : w.heap.size + 6 ≤ W.heap.size := by omega
    have d1 := k1.cell
    have d2 := k2.cell
    have d3 := k3.cell
    have d4 := k4.cell
    have e1 := k1.frozen
    have e2 := k2.frozen
    have e3 := k3.frozen
    have e4 := k4.frozen
    have hBxs : Bx ≠ w.heap.size + 1 ∧ Bx ≠ w.heap.size + 1 + 1 ∧ Bx ≠ w.heap.size + 1 + 1 + 1 ∧ Bx ≠ w.heap.size + 1 + 1 + 1 + 1 := by omega
    obtain ⟨n1, n2, n3, n4⟩ := hBxs
    have HS := Lib.hid hs
    have K1 := Lib.hid k1
    have K2 := Lib.hid k2
    have K3 := Lib.hid k3
    have K4 := Lib.hid k4
    have K6 := Lib.hid k6
    have hxl := (wf_low hxw).1
    clear hs k1 k2 k3 k4 k6 hxw
    by_cases hfull : pre.length = 400
    · have hq : (400 : Int) < (pre.length : Int) + 1 := by omega
      gi_wp2
      refine ⟨((Kept.refl _ _ _).setCell (p := ⟨w.heap.size + 1 + 1, 0, none⟩) (by simp; omega) (.inl (by have := HS.out; simp; omega)) _).setCell (p := ⟨w.heap.size + 1, 0, none⟩) (by simp) (.inl (by have := HS.out; simp; omega)) _, rfl, ?_, by simp; omega, ?_⟩
      · exact (boxed_other K1.out (by omega) 0 _).set _
      · exact (K6.out.setCell (p := ⟨w.heap.size + 1 + 1, 0, none⟩) (by simp; omega) _).setCell (p := ⟨w.heap.size + 1, 0, none⟩) (by simp) _
    · have hq : ¬ (400 : Int) < (pre.length : Int) + 1 := by omega
      cases hbad : bad pre
      · rw [hbad] at d4
        gi_wp2_with (refine ⟨trivial, ?_⟩; gi_at_call 105; go_must (refine (CallsIn.inRound l (callsIn_wide.2 (allowed_any _ _ _ _ _ hxl))).mono ?_); rintro e w2 ⟨rfl, hB2⟩; have b4 := boxed_below (boxed_other (boxed_other K4.out (by omega) 0 _) (by omega) 0 _) hB2 (by simp; omega); have B2 := Lib.hid hB2; clear hB2; rw [hbad] at b4; have d5 := b4.cell; have e5 := b4.frozen; have B4 := Lib.hid b4; clear b4)
        all_goals
          refine ⟨(((((Kept.refl _ _ _).setCell (p := ⟨w.heap.size + 1 + 1, 0, none⟩) (by simp; omega) (.inl (by have := HS.out; simp; omega)) _).setCell (p := ⟨w.heap.size + 1 + 1 + 1, 0, none⟩) (by simp; omega) (.inl (by have := HS.out; simp; omega)) _)).below (by simp; omega) B2.out).setCell (p := ⟨w.heap.size + 1 + 1 + 1 + 1, 0, none⟩) (by simp; omega) (.inl (by have := HS.out; simp; omega)) _, ?_, ?_, ?_, ?_, by simp; omega, ?_⟩
          · exact boxed_other (boxed_below (boxed_other (boxed_other K1.out (by omega) 0 _) (by omega) 0 _) B2.out (by simp; omega)) (by omega) 0 _
          · have h := boxed_other (boxed_below (boxed_other (K2.out.set _) (by omega) 0 _) B2.out (by simp; omega)) (B' := w.heap.size + 1 + 1 + 1 + 1) (by omega) 0 (.bool (!okB x.2.head x.2.args.length))
            simpa using h
          · have h := boxed_other (boxed_below ((boxed_other K3.out (by omega) 0 _).set _) B2.out (by simp; omega)) (B' := w.heap.size + 1 + 1 + 1 + 1) (by omega) 0 (.bool (!okB x.2.head x.2.args.length))
            have h2 : (if mx 0 pre < x.1 then (x.1 : Int) else (mx 0 pre : Int)) = ((max (mx 0 pre) x.1 : Nat) : Int) := by split <;> omega
            first | rw [h2] at h | rw [show max ((mx 0 pre : Nat) : Int) (x.1 : Int) = ((max (mx 0 pre) x.1 : Nat) : Int) from by omega] at h
            rw [mx_snoc]
            exact h
          · rw [bad_snoc, hbad]; simpa using B4.out.set (.bool (!okB x.2.head x.2.args.length))
          · exact ((((K6.out.setCell (p := ⟨w.heap.size + 1 + 1, 0, none⟩) (by simp; omega) _).setCell (p := ⟨w.heap.size + 1 + 1 + 1, 0, none⟩) (by simp; omega) _)).trans (B2.out.mono (by simp; omega))).setCell (p := ⟨w.heap.size + 1 + 1 + 1 + 1, 0, none⟩) (by simp; omega) _
      · rw [hbad] at d4
        gi_wp2
        all_goals
          refine ⟨trivial, ?_⟩
          gi_wp2
          refine ⟨((((Kept.refl _ _ _).setCell (p := ⟨w.heap.size + 1 + 1, 0, none⟩) (by simp; omega) (.inl (by have := HS.out; simp; omega)) _).setCell (p := ⟨w.heap.size + 1 + 1 + 1, 0, none⟩) (by simp; omega) (.inl (by have := HS.out; simp; omega)) _)).setCell (p := ⟨w.heap.size + 1 + 1 + 1 + 1, 0, none⟩) (by simp; omega) (.inl (by have := HS.out; simp; omega)) _, ?_, ?_, ?_, ?_, by simp; omega, ?_⟩
          · exact boxed_other (boxed_other (boxed_other K1.out (by omega) 0 _) (by omega) 0 _) (by omega) 0 _
          · rw [show ((pre ++ [x]).length : Int) = (pre.length : Int) + 1 from by simp]
            exact boxed_other (boxed_other (K2.out.set _) (by omega) 0 _) (by omega) 0 _
          · rw [mx_snoc]
            first
              | (rw [show max (mx 0 pre) x.1 = x.1 from by omega]; exact boxed_other ((boxed_other K3.out (by omega) 0 _).set _) (by omega) 0 _)
              | (rw [show max (mx 0 pre) x.1 = mx 0 pre from by omega]; exact boxed_other ((boxed_other K3.out (by omega) 0 _).set _) (by omega) 0 _)
              | (rw [show ((max (mx 0 pre) x.1 : Nat) : Int) = max ((mx 0 pre : Nat) : Int) (x.1 : Int) from by omega]; exact boxed_other ((boxed_other K3.out (by omega) 0 _).set _) (by omega) 0 _)
          · rw [bad_snoc, hbad]; exact (boxed_other (boxed_other K4.out (by omega) 0 _) (by omega) 0 _).set _
          · exact (((K6.out.setCell (p := ⟨w.heap.size + 1 + 1, 0, none⟩) (by simp; omega) _).setCell (p := ⟨w.heap.size + 1 + 1 + 1, 0, none⟩) (by simp; omega) _)).setCell (p := ⟨w.heap.size + 1 + 1 + 1 + 1, 0, none⟩) (by simp; omega) _
  case done =>
    rintro D xs W hD rfl ⟨k1, k2, k3, k4, k5, k6⟩ hK
    rw [T.subs_length] at k2 k5
    rw [mx_all] at k3
    have d1 := k1.cell
    have d3 := k3.cell
    have d4 := k4.cell
    have e1 := k1.frozen
    have HS := Lib.hid hs
    have K1 := Lib.hid k1
    have K6 := Lib.hid k6
    clear hs k1 k2 k3 k4 k6
    have fin : ∀ q : Int, (W.setCell ⟨w.heap.size + 1, 0, none⟩ (.int .i64 q)).heap[D]? = some (.deferred (some [])) := fun q => (Below.heap_setCell W ⟨w.heap.size + 1, 0, none⟩ _ D (by have := HS.out; simp; omega)).trans hK
    have FIN := Lib.hid fin
    clear fin
    by_cases hdp : 40 < t.depth
    · gi_wp2
      refine ⟨by simp, .inl ⟨_, _, rfl, run_takeDeferred (FIN.out 7), ?_⟩⟩
      have d1 := cell_kept (K1.out.set (.int .i64 7)).cell (grownBy_putObj' _ D (.deferred none)) (fun r e => by cases e; exact ⟨_, FIN.out 7, rfl⟩)
      refine ⟨.int .i64 7, by simp [results, Tryz.results62, go_sem, d1], ?_, (K6.out.setCell (p := ⟨w.heap.size + 1, 0, none⟩) (by simp) _).trans (below_putObj _ (FIN.out 7) (by have := HS.out; omega))⟩
      rw [T.check, if_neg (by omega), if_pos (by omega)]
    · cases hbad : bad (T.subs 1 t)
      · rw [hbad] at d4
        have HBD := Lib.hid hbad
        clear hbad
        gi_wp2
        refine ⟨by simp, .inl ⟨_, _, rfl, run_takeDeferred (FIN.out 0), ?_⟩⟩
        have d1 := cell_kept (K1.out.set (.int .i64 0)).cell (grownBy_putObj' _ D (.deferred none)) (fun r e => by cases e; exact ⟨_, FIN.out 0, rfl⟩)
        refine ⟨.int .i64 0, by simp [results, Tryz.results62, go_sem, d1], ?_, (K6.out.setCell (p := ⟨w.heap.size + 1, 0, none⟩) (by simp) _).trans (below_putObj _ (FIN.out 0) (by have := HS.out; omega))⟩
        rw [T.check, if_neg (by omega), if_neg (by omega), HBD.out]; rfl
      · rw [hbad] at d4
        have HBD := Lib.hid hbad
        clear hbad
        gi_wp2
        refine ⟨by simp, .inl ⟨_, _, rfl, run_takeDeferred (FIN.out 1), ?_⟩⟩
        have d1 := cell_kept (K1.out.set (.int .i64 1)).cell (grownBy_putObj' _ D (.deferred none)) (fun r e => by cases e; exact ⟨_, FIN.out 1, rfl⟩)
        refine ⟨.int .i64 1, by simp [results, Tryz.results62, go_sem, d1], ?_, (K6.out.setCell (p := ⟨w.heap.size + 1, 0, none⟩) (by simp) _).trans (below_putObj _ (FIN.out 1) (by have := HS.out; omega))⟩
        rw [T.check, if_neg (by omega), if_neg (by omega), HBD.out]; rfl
  case stop =>
    rintro D c pre W hD hpre ⟨rfl, k1, k2, k3⟩ hK
    gi_wp2
    refine ⟨by simp, .inl ⟨_, _, rfl, run_takeDeferred hK, ?_⟩⟩
    have d1 := cell_kept k1.cell (grownBy_putObj' W D (.deferred none)) (fun r e => by cases e; exact ⟨_, hK, rfl⟩)
    refine ⟨.int .i64 2, by simp [results, Tryz.results62, go_sem, d1], ?_, k3.trans (below_putObj _ hK (by omega))⟩
    have := hpre.length_le
    rw [T.subs_length] at this
    rw [T.check, if_pos (by omega)]

end Go.Proofs.YtbdabdjpgmnejaaGreat

/- Contract of Size: a loop over the iterator of subterms. -/
namespace Go.Proofs.YtbdabdjpgmnejaaGreat
set_option linter.unusedVariables false
set_option linter.unusedSimpArgs false
open Go.RowKit Go.Shelf
attribute [local go_sem] Oper.semAt_some

set_option maxRecDepth 100000 in
set_option maxHeartbeats 2000000 in
theorem size_any (t : T) (ht : t.size ≤ 1000000000000) (n₀ : Nat) (a : Option Addr) (c : Nat) (w : World) (hn : n₀ ≤ w.heap.size) (hwf : (Lit.int .i64 t.head).wf = true) (hA : IsArgs n₀ w t.args a c) :
    Calls Tryz.prog 144 #[tm t.head a t.args.length c] w fun e w' => e = .returned (.int .i64 (t.size : Nat)) ∧ Below w.heap.size w w' := by
  have HA := Lib.hid (hA.mono hn)
  clear hA hn n₀
  refine (callsIn_wide (n := 9)).1 ?_
  refine callsIn_of_wp_marks Tryz.func144 rfl trivial ?_ rfl
  simp only [Tryz.ntmps144, List.size_toArray, List.length_cons, List.length_nil, Nat.reduceAdd, Nat.reduceSub, Array.replicate_succ, Array.replicate_zero, List.push_toArray, List.append_toArray, List.nil_append, List.cons_append]
  gi_wp2_with (refine ⟨trivial, ?_⟩; gi_at_call 82; refine (callsIn_wide.2 (subterms_any _ _ _ _ _)).mono ?_; rintro e w' ⟨rfl, rfl⟩)
  have hB3 : Below w.heap.size w (((w.alloc (tmCells t.head a t.args.length c)).alloc (.cells #[.int .i64 0] 3)).alloc (tmCells t.head a t.args.length c)) := (((Below.refl _ w).alloc (Nat.le_refl _) _).alloc (by simp) _).alloc (by simp; omega) _
  have f1 : (((w.alloc (tmCells t.head a t.args.length c)).alloc (.cells #[.int .i64 0] 3)).alloc (tmCells t.head a t.args.length c)).cell? ⟨w.heap.size + 1, 0, none⟩ = some (.int .i64 0) := by simp [go_sem]
  have f2 : (((w.alloc (tmCells t.head a t.args.length c)).alloc (.cells #[.int .i64 0] 3)).alloc (tmCells t.head a t.args.length c)).frozen? ⟨w.heap.size + 1, 0, none⟩ = false := by simp [go_sem]
  have f3 : (((w.alloc (tmCells t.head a t.args.length c)).alloc (.cells #[.int .i64 0] 3)).alloc (tmCells t.head a t.args.length c)).cell? ⟨w.heap.size + 1 + 1, 0, none⟩ = some (.int .i64 t.head) := by simp [go_sem]
  have f4 : (((w.alloc (tmCells t.head a t.args.length c)).alloc (.cells #[.int .i64 0] 3)).alloc (tmCells t.head a t.args.length c)).cell? ⟨w.heap.size + 1 + 1, 1, none⟩ = some (.slice a t.args.length c) := by simp [go_sem]
  have hs : (((w.alloc (tmCells t.head a t.args.length c)).alloc (.cells #[.int .i64 0] 3)).alloc (tmCells t.head a t.args.length c)).heap.size = w.heap.size + 3 := by simp
  generalize (((w.alloc (tmCells t.head a t.args.length c)).alloc (.cells #[.int .i64 0] 3)).alloc (tmCells t.head a t.args.length c)) = W3 at *
  refine wpIn_rangeB rfl (by omega) (gf := 118) (lb := #[.pointer (some ⟨w.heap.size + 1 + 1, 0, none⟩)]) rfl trivial (enters_of Tryz.func118 (by kernel_rfl) rfl)
    (subterms_seq Fence.wide 8 trivial rfl (by omega) t ht (w.heap.size + 1 + 1) w.heap.size a c W3 (by omega) (by omega) hwf f3 f4 (HA.out.below hB3)) (Below.refl _ _) (by omega) (fun _ _ _ _ h => h.size) (fun _ _ _ _ _ h hb => h.below hb)
    (fun pre W => W.cell? ⟨w.heap.size + 1, 0, none⟩ = some (.int .i64 (pre.length : Nat)) ∧ W.frozen? ⟨w.heap.size + 1, 0, none⟩ = false ∧ Below w.heap.size w W)
    (fun _ _ _ => False)
    (fun pre X Y h hb => ⟨(hb.cell (p := ⟨w.heap.size + 1, 0, none⟩) (by simp; omega)).trans h.1, (hb.frozen (p := ⟨w.heap.size + 1, 0, none⟩) (by simp; omega)).trans h.2.1, h.2.2.trans (hb.mono (by omega))⟩)
    (fun _ _ _ _ h _ => h)
    ⟨f1, f2, hB3⟩
    (fun _ _ a' _ => ∃ u v, a' = { tmps := #[tm t.head a t.args.length c, Value.pointer (some ⟨w.heap.size, 0, none⟩), Value.int IntKind.i64 0, Value.pointer (some ⟨w.heap.size + 1, 0, none⟩), Value.agg #[Value.int IntKind.i64 t.head, Value.slice a t.args.length c], Value.func (Fn.func 118) #[] #[Value.pointer (some ⟨w.heap.size + 1 + 1, 0, none⟩)], u, v, undef, undef, undef], defers := [] })
    (fun _ _ _ _ _ _ _ _ _ _ h => h) ?assign ?body ?done ?stop
  case assign =>
    rintro l pre x vs W K hsz hi ⟨_, _, a1, c1, rfl, _⟩ hK
    gi_wp2
    exact hK _ _ (Kept.refl _ _ _) hi ⟨.int .i64 x.1, tm x.2.head a1 x.2.args.length c1, by simp⟩
  case body =>
    rintro l pre x vs a' W hsz ⟨hc, hf, hb⟩ hm ⟨u, v, rfl⟩
    have hlen : pre.length < t.size := hm.length
    clear hm
    gi_wp2
    refine ⟨(Kept.refl _ _ _).setCell (p := ⟨w.heap.size + 1, 0, none⟩) (by simp) (.inl (by simp; omega)) _, ?_, ?_, hb.setCell (p := ⟨w.heap.size + 1, 0, none⟩) (by simp) _⟩
    · rw [World.cell?_setCell_same' _ _ _ (by rw [hc]; rfl)]; simp
    · rw [World.frozen?_setCell]; exact hf
  case done =>
    rintro D xs W hD rfl ⟨hc, hf, hb⟩ hK
    gi_wp2
    refine ⟨by simp, .inl ⟨_, _, rfl, run_takeDeferred hK, ?_⟩⟩
    refine ⟨_, results_tmp rfl _ _ _, by rw [T.subs_length]; rfl, hb.trans (below_putObj _ hK (by omega))⟩
  case stop =>
    rintro D c pre W _ _ h _
    exact h.elim

end Go.Proofs.YtbdabdjpgmnejaaGreat

/- What is plain in the contract of Vars: variables in order, slices of ints, frames of iterators. -/
namespace Go.Proofs.YtbdabdjpgmnejaaGreat
set_option linter.unusedVariables false
set_option linter.unusedSimpArgs false
open Go.RowKit Go.Shelf
attribute [local go_sem] Oper.semAt_some

/-- The variables among these, each once, in the order of their first occurrences. -/
def varStep (acc : List Int) (x : Nat × T) : List Int := if x.2.head < 0 then (if acc.contains (-1 - x.2.head) then acc else acc ++ [-1 - x.2.head]) else acc
def varsOf (pre : List (Nat × T)) : List Int := pre.foldl varStep []
theorem varsOf_snoc (pre : List (Nat × T)) (x : Nat × T) : varsOf (pre ++ [x]) = varStep (varsOf pre) x := by simp [varsOf]
theorem varStep_length (acc : List Int) (x : Nat × T) : (varStep acc x).length ≤ acc.length + 1 := by
  unfold varStep; split
  · split
    · omega
    · simp
  · omega

theorem KeptO.alloc {n₀ B : Nat} {own : TypeId → Bool} {X Y : World} (h : KeptO n₀ B own X Y) (hn : n₀ ≤ X.heap.size) (o : Obj) : KeptO n₀ B own X (Y.alloc o) :=
  ⟨h.1.alloc (Nat.le_trans hn h.1.size) o, fun b hb hl ho => (Below.heap_alloc _ _ _ (Nat.lt_of_lt_of_le hl h.1.size)).trans (h.2 b hb hl ho)⟩
theorem KeptO.grown {n₀ B : Nat} {own : TypeId → Bool} {X Y Z : World} {row : Option Nat} (h : KeptO n₀ B own X Y) (hg : Y.grownBy Z row) (hn : n₀ ≤ Y.heap.size)
    (hr : ∀ k, row = some k → n₀ ≤ k ∧ (k < B ∨ ∃ cs e fz, X.heap[k]? = some (Obj.cells cs e fz) ∧ own e = false)) : KeptO n₀ B own X Z :=
  ⟨h.1.grown hg hn (fun k e => (hr k e).1), fun b hb hl ho => (hg.block b (Nat.lt_of_lt_of_le hl h.1.size) (fun e => by
    rcases (hr b e.symm).2 with h1 | ⟨cs, e', fz, h1, h2⟩
    · omega
    · rw [ho cs e' fz h1] at h2; cases h2)).trans (h.2 b hb hl ho)⟩
theorem KeptO.setCell {n₀ B : Nat} {own : TypeId → Bool} {X Y : World} (h : KeptO n₀ B own X Y) {p : Addr} (hp : n₀ ≤ p.block) (hq : p.block < B) (u : Value) : KeptO n₀ B own X (Y.setCell p u) :=
  ⟨h.1.setCell hp u, fun b hb hl ho => (Below.heap_setCell _ _ _ _ (by omega)).trans (h.2 b hb hl ho)⟩

theorem has_ints (zs : List Int) (z : Int) : Maps.has (Maps.setOf (.agg [] : DataW Unit) (zs.map (Lit.int .i64))) (Lit.int .i64 z) = zs.contains z := by
  rw [Maps.has_setOf _ _ _ (by intro x hx; obtain ⟨y, _, rfl⟩ := List.mem_map.1 hx; trivial), List.any_map, List.contains_eq_any_beq]
  congr 1
  funext y
  rw [Bool.eq_iff_iff]
  simp [Lit.sameKey]
  exact eq_comm

/-- A slice of ints in memory. -/
def IsInts (w : World) (v : Value) (zs : List Int) : Prop :=
  (v = .slice none 0 0 ∧ zs = []) ∨ ∃ g cap, v = .slice (some ⟨g, 0, none⟩) zs.length cap ∧ g < w.heap.size ∧ zs.length ≤ cap ∧ cap ≤ maxLen ∧ ∀ (j : Nat) (z : Int), zs[j]? = some z → w.cell? ⟨g, j, none⟩ = some (.int .i64 z)
theorem IsInts.below {w w' : World} {v : Value} {zs : List Int} (h : IsInts w v zs) (hb : Below w.heap.size w w') : IsInts w' v zs := by
  rcases h with h | ⟨g, cap, h1, h2, h3, h4, h5⟩
  · exact .inl h
  · exact .inr ⟨g, cap, h1, Nat.lt_of_lt_of_le h2 hb.size, h3, h4, fun j z hz => (hb.cell (p := ⟨g, j, none⟩) h2).trans (h5 j z hz)⟩
def varsPost (t : T) (w : World) (e : Ending) (w' : World) : Prop := ∃ v, e = .returned v ∧ IsInts w' v (varsOf (T.subs 1 t)) ∧ Below w.heap.size w w'

theorem info3 : (Tryz.prog.info? 3).map (fun i => (i.zero, i.size, i.bytes)) = some (some (.int .i64 0), 1, 8) := by kernel_rfl

theorem row_not_map {W : World} {H : Type} {P : Program} {k : TypeId} {R : Value → Option (DataW H × List MemPlace)} {b n : Nat} {D : DataW H} (hm : W.ownsMap P k R b n D) {base : Nat} {e : TypeId} {size m : Nat} {v : Value} {xs : List Value} (hr : W.ownsRow base e size v m xs) : v.ownBlock = none ∨ v.ownBlock ≠ some b := by
  obtain ⟨es, clock, hb, _⟩ := hm
  rcases hr.2 with ⟨rfl, _⟩ | ⟨g, cap, cur, rfl, _, hh, _⟩
  · exact .inl rfl
  · refine .inr fun h => ?_
    obtain rfl : g = b := by simpa [Value.ownBlock] using h
    rw [hb] at hh; cases hh

end Go.Proofs.YtbdabdjpgmnejaaGreat
