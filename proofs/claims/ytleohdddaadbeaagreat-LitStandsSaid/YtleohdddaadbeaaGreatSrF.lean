/- The library's sort by a function of one's own, at rows of terms: plain facts and the contract, for any function that compares terms and lays but blocks of its own. -/
import Derived.Test.YtleohdddaadbeaaGreatDrw
import Derived.Test.YtleohdddaadbeaaGreatOrd
import Derived.Test.YtleohdddaadbeaaGreatLeaf
import Derived.Shelf.SlSortCmp.WholeK
namespace Go.Proofs
open Go.Shelf
def Tryz.sortT_ren : Go.Shelf.Ren := ⟨fun | 6 => 70 | 15 => 92 | 14 => 91 | 28 => 109 | 29 => 110 | 20 => 101 | 21 => 102 | 22 => 103 | 23 => 104 | 24 => 105 | 25 => 106 | 26 => 107 | 27 => 108 | 46 => 112 | 47 => 113 | 48 => 114 | 49 => 115 | 50 => 116 | 57 => 117 | n => n, fun | 22 => 23 | 24 => 25 | 25 => 71 | 3 => 3 | 39 => 110 | 0 => 0 | 53 => 126 | 55 => 128 | 4 => 4 | 46 => 120 | 45 => 119 | 50 => 115 | 5 => 5 | 9 => 9 | 66 => 129 | 70 => 133 | 76 => 135 | 77 => 136 | n => n, fun | n => n⟩
theorem Tryz.sortT : Go.Proofs.SlLaysF0.n6 Tryz.prog Tryz.sortT_ren := {
  mixed := by kernel_rfl
  f6 := ⟨Tryz.f70.name, by decide, Tryz.func70.trans (congrArg some (by kernel_rfl))⟩
  f14 := ⟨Tryz.f91.name, by decide, Tryz.func91.trans (congrArg some (by kernel_rfl))⟩
  f15 := Tryz.func92.trans (congrArg some (by kernel_rfl))
  f20 := ⟨Tryz.f101.name, by decide, Tryz.func101.trans (congrArg some (by kernel_rfl))⟩
  f21 := ⟨Tryz.f102.name, by decide, Tryz.func102.trans (congrArg some (by kernel_rfl))⟩
  f22 := ⟨Tryz.f103.name, by decide, Tryz.func103.trans (congrArg some (by kernel_rfl))⟩
  f23 := ⟨Tryz.f104.name, by decide, Tryz.func104.trans (congrArg some (by kernel_rfl))⟩
  f24 := ⟨Tryz.f105.name, by decide, Tryz.func105.trans (congrArg some (by kernel_rfl))⟩
  f25 := ⟨Tryz.f106.name, by decide, Tryz.func106.trans (congrArg some (by kernel_rfl))⟩
  f26 := ⟨Tryz.f107.name, by decide, Tryz.func107.trans (congrArg some (by kernel_rfl))⟩
  f27 := ⟨Tryz.f108.name, by decide, Tryz.func108.trans (congrArg some (by kernel_rfl))⟩
  f28 := Tryz.func109.trans (congrArg some (by kernel_rfl))
  f29 := Tryz.func110.trans (congrArg some (by kernel_rfl))
  f46 := ⟨Tryz.f112.name, by decide, Tryz.func112.trans (congrArg some (by kernel_rfl))⟩
  f47 := Tryz.func113.trans (congrArg some (by kernel_rfl))
  f48 := Tryz.func114.trans (congrArg some (by kernel_rfl))
  f49 := ⟨Tryz.f115.name, by decide, Tryz.func115.trans (congrArg some (by kernel_rfl))⟩
  f50 := ⟨Tryz.f116.name, by decide, Tryz.func116.trans (congrArg some (by kernel_rfl))⟩
  f57 := ⟨Tryz.f117.name, by decide, Tryz.func117.trans (congrArg some (by kernel_rfl))⟩
  t0 := Tryz.underlying0
  a0 := Tryz.isAgg0
  z0 := Tryz.sizeOf0
  v0 := Tryz.zeroValue0
  t3 := Tryz.underlying3
  a3 := Tryz.isAgg3
  z3 := Tryz.sizeOf3
  v3 := Tryz.zeroValue3
  t4 := Tryz.underlying4
  a4 := Tryz.isAgg4
  z4 := Tryz.sizeOf4
  v4 := Tryz.zeroValue4
  t5 := Tryz.underlying5
  a5 := Tryz.isAgg5
  z5 := Tryz.sizeOf5
  v5 := Tryz.zeroValue5
  t9 := Tryz.underlying9
  a9 := Tryz.isAgg9
  z9 := Tryz.sizeOf9
  v9 := Tryz.zeroValue9
  t22 := Tryz.underlying23
  a22 := Tryz.isAgg23
  z22 := Tryz.sizeOf23
  v22 := Tryz.zeroValue23
  t25 := Tryz.underlying71
  a25 := Tryz.isAgg71
  z25 := Tryz.sizeOf71
  v25 := Tryz.zeroValue71
  t39 := Tryz.underlying110
  a39 := Tryz.isAgg110
  z39 := Tryz.sizeOf110
  v39 := Tryz.zeroValue110
  t45 := Tryz.underlying119
  a45 := Tryz.isAgg119
  z45 := Tryz.sizeOf119
  v45 := Tryz.zeroValue119
  t46 := Tryz.underlying120
  a46 := Tryz.isAgg120
  z46 := Tryz.sizeOf120
  v46 := Tryz.zeroValue120
  t50 := Tryz.underlying115
  a50 := Tryz.isAgg115
  z50 := Tryz.sizeOf115
  v50 := Tryz.zeroValue115
  t53 := Tryz.underlying126
  a53 := Tryz.isAgg126
  z53 := Tryz.sizeOf126
  v53 := Tryz.zeroValue126
  t55 := Tryz.underlying128
  a55 := Tryz.isAgg128
  z55 := Tryz.sizeOf128
  v55 := Tryz.zeroValue128
  t66 := Tryz.underlying129
  a66 := Tryz.isAgg129
  z66 := Tryz.sizeOf129
  v66 := Tryz.zeroValue129
  t70 := Tryz.underlying133
  a70 := Tryz.isAgg133
  z70 := Tryz.sizeOf133
  v70 := Tryz.zeroValue133
  t76 := Tryz.underlying135
  a76 := Tryz.isAgg135
  z76 := Tryz.sizeOf135
  v76 := Tryz.zeroValue135
  t77 := Tryz.underlying136
  a77 := Tryz.isAgg136
  z77 := Tryz.sizeOf136
  v77 := Tryz.zeroValue136 }
end Go.Proofs
namespace Go.Proofs.YtleohdddaadbeaaGreat
set_option linter.unusedVariables false
set_option linter.unusedSimpArgs false
open Go.RowKit

theorem grow_of {W w' : World} (h : Below W.heap.size W w') (hd : W.drawn ≤ w'.drawn) : ∃ q os, w' = Go.Sort.grow (W.drewN q) os := by
  refine ⟨w'.drawn - W.drawn, w'.heap.extract W.heap.size w'.heap.size, ?_⟩
  obtain ⟨h1, h2, h3, h4, h5⟩ := h
  have hh : w'.heap = W.heap ++ w'.heap.extract W.heap.size w'.heap.size := by
    apply Array.ext_getElem?
    intro i
    by_cases hi : i < W.heap.size
    · rw [Array.getElem?_append_left hi]; exact h5 i hi
    · rw [Array.getElem?_append_right (by omega), Array.getElem?_extract]
      split
      · congr 1; omega
      · rw [Array.getElem?_eq_none (by omega)]
  cases w' with
  | mk a b c d e =>
    simp only [Go.Sort.grow, World.drewN]
    dsimp only at h1 h2 h3 h4 hh hd
    rw [← hh, h1, h2, h3, Nat.add_sub_cancel' hd]

/-! ### At no element -/
set_option maxRecDepth 100000 in
theorem len64_zero' (w : World) : Calls Tryz.prog 110 #[.int .u64 0] w fun e w' => e = .returned (.int .i64 0) ∧ w' = w := by
  go_enter Tryz.func110, Tryz.ntmps110
  go_wp2
  go_ret
  exact ⟨by kernel_rfl, rfl⟩
theorem len_zero' (w : World) : Calls Tryz.prog 92 #[.int .u64 0] w fun e w' => e = .returned (.int .i64 0) ∧ w' = w := by
  go_enter Tryz.func92, Tryz.ntmps92
  go_wp2_with fail
  refine (len64_zero' w).mono ?_
  rintro e w' ⟨rfl, rfl⟩
  go_wp2
  go_ret
  exact ⟨rfl, rfl⟩
set_option maxRecDepth 100000 in
theorem insC_zero (p : Option Addr) (cap : Nat) (fv : Value) (w : World) : Calls Tryz.prog 101 #[.slice p 0 cap, .int .i64 0, .int .i64 0, fv] w fun e w' => e = .returned (.tuple #[]) ∧ w' = w := by
  go_enter Tryz.func101, Tryz.ntmps101
  go_wp2
  refine wp_loop_rounds 1 ?_
  rw [rounds_succ]
  go_wp2
  go_end0
  exact ⟨rfl, rfl⟩
set_option maxRecDepth 100000 in
theorem pdqC_zero (p : Option Addr) (cap : Nat) (fv : Value) (w : World) : Calls Tryz.prog 91 #[.slice p 0 cap, .int .i64 0, .int .i64 0, .int .i64 0, fv] w fun e w' => e = .returned (.tuple #[]) ∧ w' = w := by
  go_enter Tryz.func91, Tryz.ntmps91
  go_wp2
  refine wp_loop_rounds 1 ?_
  rw [rounds_succ]
  go_wp2_with fail
  refine (insC_zero p cap fv _).mono ?_
  rintro e w' ⟨rfl, rfl⟩
  go_wp2
  (try simp only [Exit.inBlock, Exit.then])
  refine bodyPost_ret (v := .tuple #[]) (by simp [results, Tryz.results91, go_sem]) rfl ?_
  exact ⟨rfl, rfl⟩
set_option maxRecDepth 100000 in
theorem sortC_zero (p : Option Addr) (cap : Nat) (fv : Value) (w : World) : Calls Tryz.prog 70 #[.slice p 0 cap, fv] w fun e w' => e = .returned (.tuple #[]) ∧ w' = w := by
  go_enter Tryz.func70, Tryz.ntmps70
  go_wp2_with fail
  refine (len_zero' _).mono ?_
  rintro e w' ⟨rfl, rfl⟩
  go_wp2_with fail
  refine (pdqC_zero p cap fv _).mono ?_
  rintro e w' ⟨rfl, rfl⟩
  go_wp2
  refine bodyPost_end (v := .tuple #[]) (by simp [results, Tryz.results70, go_sem]) rfl ?_
  exact ⟨rfl, rfl⟩

/-- What a function that is handed to the sort must be. -/
def CmpT (f : Nat) (cf : T → T → Int) (n₀ : Nat) (w : World) (ts : List T) : Prop :=
  ∀ (x y : T) (a : Option Addr) (c : Nat) (a' : Option Addr) (c' : Nat) (W : World), x ∈ ts → y ∈ ts → Below n₀ w W → (Lit.int .i64 x.head).wf = true → (Lit.int .i64 y.head).wf = true → IsArgs n₀ W x.args a c → IsArgs n₀ W y.args a' c' →
    Calls Tryz.prog f #[tm x.head a x.args.length c, tm y.head a' y.args.length c'] W fun e w' => e = .returned (.int .i64 (cf x y)) ∧ Below W.heap.size W w'

/-- An element of the row: a term of the row, with where its arguments lie. -/
structure El (n₀ : Nat) (w : World) (ts : List T) where
  t : T
  a : Option Addr
  c : Nat
  mem : t ∈ ts
  wf : (Lit.int .i64 t.head).wf = true
  args : IsArgs n₀ w t.args a c
def El.enc {n₀ : Nat} {w : World} {ts : List T} (x : El n₀ w ts) : List Value := [.int .i64 x.t.head, .slice x.a x.t.args.length x.c]

theorem els_of {n₀ : Nat} {w : World} {g : Nat} (all : List T) : ∀ (ts : List T) (o : Nat), (∀ t ∈ ts, t ∈ all) → IsRow n₀ w ts g o → ∃ d : List (El n₀ w all), d.map El.t = ts ∧ ∀ (j : Nat) (x : El n₀ w all), d[j]? = some x → w.cell? ⟨g, o + j * 2, none⟩ = some (.int .i64 x.t.head) ∧ w.cell? ⟨g, o + j * 2 + 1, none⟩ = some (.slice x.a x.t.args.length x.c)
  | [], o, _, _ => ⟨[], rfl, by simp⟩
  | t :: ts, o, hm, h => by
    simp only [IsRow] at h
    obtain ⟨ht, hr⟩ := h
    obtain ⟨d, h1, h2⟩ := els_of all ts (o + 2) (fun s hs => hm s (List.mem_cons_of_mem _ hs)) hr
    obtain ⟨wf, p1, a, c, p2, hA⟩ := isT_iff.1 ht
    refine ⟨⟨t, a, c, hm t (List.mem_cons_self ..), wf, hA⟩ :: d, by simp [h1], fun j x hj => ?_⟩
    cases j with
    | zero => simp at hj; subst hj; simpa using ⟨p1, p2⟩
    | succ j =>
      have := h2 j x (by simpa using hj)
      rw [show o + 2 + j * 2 = o + (j + 1) * 2 from by omega] at this
      exact this

theorem row_of_els {n₀ : Nat} {w w' : World} {g : Nat} {all : List T} (hb : Below n₀ w w') : ∀ (d : List (El n₀ w all)) (o : Nat), (∀ (j : Nat) (x : El n₀ w all), d[j]? = some x → w'.cell? ⟨g, o + j * 2, none⟩ = some (.int .i64 x.t.head) ∧ w'.cell? ⟨g, o + j * 2 + 1, none⟩ = some (.slice x.a x.t.args.length x.c)) → IsRow n₀ w' (d.map El.t) g o
  | [], o, _ => trivial
  | x :: d, o, h => by
    obtain ⟨h1, h2⟩ := h 0 x rfl
    simp only [List.map_cons, IsRow]
    refine ⟨isT_iff.2 ⟨x.wf, by simpa using h1, x.a, x.c, by simpa using h2, x.args.below hb⟩, row_of_els hb d (o + 2) (fun j y hj => ?_)⟩
    have := h (j + 1) y (by simpa using hj)
    rw [show o + (j + 1) * 2 = o + 2 + j * 2 from by omega] at this
    exact this

theorem sortT_any (f : Nat) (eg : ∀ args w, (callFunc f args).run Tryz.prog w = .ok (.enter f args) w) (cf : T → T → Int) (hO : ∀ {α : Type} (k : α → T), Go.Sort.SWO (Go.Proofs.ltOf fun x y => cf (k x) (k y))) (ts : List T) (hts : ts.length ≤ 1000000000000)
    (n₀ g cap : Nat) (w : World) (hn : n₀ ≤ g) (hg : g < w.heap.size) (hR : IsRow n₀ w ts g 0) (hfr : ∀ j, j < ts.length * 2 → w.frozen? ⟨g, j, none⟩ = false) (hC : CmpT f cf n₀ w ts) :
    Calls Tryz.prog 70 #[.slice (some ⟨g, 0, none⟩) ts.length cap, .func (.func f) #[] #[]] w fun e w' =>
      e = .returned (.tuple #[]) ∧ ∃ us, us.Perm ts ∧ us.Pairwise (fun x y => 0 ≤ cf y x) ∧ IsRow n₀ w' us g 0 ∧ w.grownBy w' (some g) := by
  cases hne : ts with
  | nil =>
    subst hne
    refine (sortC_zero (some ⟨g, 0, none⟩) cap _ w).mono ?_
    rintro e w' ⟨rfl, rfl⟩
    exact ⟨rfl, [], List.Perm.refl _, List.Pairwise.nil, trivial, ⟨rfl, rfl, rfl, Nat.le_refl _, fun _ _ _ => rfl⟩⟩
  | cons t0 ts0 =>
    rw [← hne]
    obtain ⟨d, hd1, hd2⟩ := els_of ts ts 0 (fun _ h => h) hR
    have hdl : d.length = ts.length := by have := congrArg List.length hd1; simpa using this
    have x0 : El n₀ w ts := d[0]'(by rw [hdl, hne]; simp)
    haveI : Inhabited (El n₀ w ts) := ⟨x0⟩
    have henc : ∀ (x : El n₀ w ts), x.enc.length = 2 := fun _ => rfl
    have h1 : ∀ (x : El n₀ w ts), ∀ v ∈ x.enc, v.oneCell' = true := fun x v hv => by
      simp only [El.enc, List.mem_cons, List.not_mem_nil, or_false] at hv
      rcases hv with rfl | rfl <;> rfl
    have hH : Go.Sort.HoldsK (El.enc) 2 w g 0 d.toArray := by
      intro j hj
      rw [Go.Sort.size_flatK] at hj
      rw [Go.Sort.get_flatK _ _ _ _ hj, Nat.zero_add]
      have hj2 : j < d.length * 2 := by simpa using hj
      have hi : j / 2 < d.length := by omega
      have hx : d.toArray[j / 2]! = d[j / 2] := by simp [hi]
      obtain ⟨c0, c1⟩ := hd2 (j / 2) d[j / 2] (List.getElem?_eq_getElem hi)
      refine ⟨?_, hfr j (by omega)⟩
      obtain ⟨x, hxx⟩ : ∃ x, d[j / 2] = x := ⟨_, rfl⟩
      rw [hxx] at hx c0 c1
      rw [hx]
      clear hxx
      rcases Nat.mod_two_eq_zero_or_one j with h | h
      · rw [h, show j = 0 + j / 2 * 2 from by omega]; simpa [El.enc] using c0
      · rw [h, show j = 0 + j / 2 * 2 + 1 from by omega]; simpa [El.enc] using c1
    have hW : ∀ (m : Nat) (os : Array Obj) (dk : Array (El n₀ w ts)), Below n₀ w (Go.Proofs.sortWorldK El.enc 2 w g 0 m dk os) := fun m os dk => by
      refine ⟨rfl, rfl, rfl, Go.Proofs.size_sortWorldK_c El.enc 2 w g 0 m dk os, fun k hk => ?_⟩
      unfold Go.Proofs.sortWorldK
      rw [Go.Sort.heap_grow_old _ _ (by rw [Go.Sort.size_putRowK]; show k < w.heap.size; omega)]
      unfold Go.Sort.putRowK Go.Sort.putRow Go.Sort.mapBlock
      simp only [Array.getElem?_modify]
      rw [if_neg (by omega)]
      rfl
    have hcmp : Go.Proofs.CmpLays Tryz.prog f #[] El.enc 2 (fun x y : El n₀ w ts => cf x.t y.t) g 0 d.toArray.size w := by
      intro m os dk hs x y
      refine (Calls.drawn (hC x.t y.t x.a x.c y.a y.c _ x.mem y.mem (hW m os dk) x.wf y.wf (x.args.below (hW m os dk)) (y.args.below (hW m os dk)))).mono ?_
      rintro e w' ⟨⟨rfl, hb⟩, hd⟩
      rcases hd with hd | hd
      · cases hd
      · exact ⟨rfl, grow_of hb hd⟩
    have h := AnyQ.slices_SortFunc Tryz.sortT 2 Tryz.isAgg25 Tryz.sizeOf25 El.enc henc h1 (fun x y : El n₀ w ts => cf x.t y.t) (hO El.t) f #[] g 0 cap d.toArray w eg hcmp hH hg (by simp; omega)
    rw [show d.toArray.size = ts.length from by simpa using hdl] at h
    refine h.mono ?_
    rintro e w' ⟨rfl, d', n, os, hp, hs, rfl⟩
    obtain ⟨hp1, _, hp3⟩ := hp
    have hsz : d'.size = ts.length := by rw [hp1]; simpa using hdl
    have e1 : d'.extract 0 ts.length = d' := by rw [← hsz]; simp
    have e2 : d.toArray.extract 0 ts.length = d.toArray := by rw [← hdl]; simp
    have hH' := Go.Proofs.holdsK_sortWorldK_c El.enc 2 w g 0 d.toArray d' n os hH hg (by rw [hsz]; simp [hdl])
    refine ⟨rfl, d'.toList.map El.t, ?_, ?_, ?_, ?_⟩
    · rw [e1, e2] at hp3
      exact (hp3.map El.t).trans (List.Perm.of_eq (by simpa using hd1))
    · rw [List.pairwise_map, List.pairwise_iff_getElem]
      intro i j hi hj hij
      have hj' : j < d'.size := by simpa using hj
      have hi' : i < d'.size := by simpa using hi
      have := hs i j (Nat.zero_le _) hij (by omega)
      unfold Go.Proofs.ltOf at this
      rw [decide_eq_false_iff_not] at this
      simp only [hj', hi', getElem!_pos] at this
      simp only [Array.getElem_toList]
      omega
    · refine row_of_els (hW n os d') d'.toList 0 (fun j x hj => ?_)
      obtain ⟨hjl, hje⟩ := List.getElem?_eq_some_iff.1 hj
      have hj' : j < d'.size := by simpa using hjl
      have hx : d'[j]! = x := by rw [← hje]; simp [hj']
      have q0 := (hH'.cell (i := j) (c := 0) hj' (by omega)).1
      have q1 := (hH'.cell (i := j) (c := 1) hj' (by omega)).1
      rw [hx] at q0 q1
      exact ⟨by simpa [El.enc] using q0, by simpa [El.enc] using q1⟩
    · refine ⟨rfl, rfl, rfl, Go.Proofs.size_sortWorldK_c El.enc 2 w g 0 n d' os, fun k hk hkg => ?_⟩
      unfold Go.Proofs.sortWorldK
      rw [Go.Sort.heap_grow_old _ _ (by rw [Go.Sort.size_putRowK]; exact hk)]
      unfold Go.Sort.putRowK Go.Sort.putRow Go.Sort.mapBlock
      simp only [Array.getElem?_modify]
      rw [if_neg (fun e => hkg (by rw [e]))]
      rfl

end Go.Proofs.YtleohdddaadbeaaGreat
