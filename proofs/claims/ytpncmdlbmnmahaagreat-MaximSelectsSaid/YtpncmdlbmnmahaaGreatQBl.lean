/- QBl: joined of Kcp, Kcm, Kc0. -/
import Derived.Test.YtpncmdlbmnmahaaGreatQBk
import Derived.Test.YtpncmdlbmnmahaaGreatQBe
import Derived.Test.YtpncmdlbmnmahaaGreatQBf
/- Kbo's scale: what decide's answer comes to. Plain facts. -/
namespace Go.Proofs.YtpncmdlbmnmahaaGreat
set_option linter.unusedVariables false
set_option linter.unusedSimpArgs false
open Go.RowKit
/-- The scale holds the difference of two rows of heads. -/
def CntD (S : Sds) (A B : List Int) : Prop := ∀ v, cS S v = (A.count v : Nat) - (B.count v : Nat)
theorem sumA_perm' (f : Int → Int) {a b : List Int} (h : a.Perm b) : sumA f a = sumA f b := by
  induction h with
  | nil => rfl
  | cons x _ ih => simp [sumA, ih]
  | swap x y l => simp [sumA]; omega
  | trans _ _ h1 h2 => rw [h1, h2]
theorem CntD.wS {S : Sds} {A B : List Int} (h : CntD S A B) (g : Sg) : wS g S = sumA (wo g) A - sumA (wo g) B := by
  have hp : (S.1 ++ B).Perm (A ++ S.2) := List.perm_iff_count.2 fun v => by
    have := h v
    unfold cS at this
    rw [List.count_append, List.count_append]
    omega
  have := sumA_perm' (wo g) hp
  rw [sumA_append, sumA_append] at this
  unfold Go.Proofs.YtpncmdlbmnmahaaGreat.wS
  omega
theorem CntD.nil (A : List Int) : CntD ([], []) A A := fun v => by simp [cS]
theorem CntD.put {S : Sds} {A B L R : List Int} (h : CntD S A B) : CntD (pl false (pl true S L) R) (A ++ L) (B ++ R) := fun v => by
  rw [cS_pl, cS_pl, h v, List.count_append, List.count_append]
  simp [sg]; omega
theorem CntD.bad1 {S : Sds} {a b : T} (h : CntD S a.hds b.hds) : anyBad S 1 = false ↔ Oft a b := by
  unfold anyBad
  rw [List.any_eq_false]
  simp only [List.mem_append, badB, Bool.and_eq_true, Bool.or_eq_true, decide_eq_true_eq, Bool.not_eq_true]
  constructor
  · intro hh v hv
    have e := h v
    by_cases q : cS S v < 0
    · exfalso
      have hm : v ∈ S.2 := List.count_pos_iff.1 (by unfold cS at q; omega)
      exact hh v (.inr hm) ⟨hv, by simp; exact q⟩
    · omega
  · rintro hh v hv ⟨h0, h1 | h1⟩
    · have e := h v
      have := hh v h0
      omega
    · omega
theorem CntD.bad2 {S : Sds} {a b : T} (h : CntD S a.hds b.hds) : anyBad S (-1) = false ↔ Oft b a := by
  unfold anyBad
  rw [List.any_eq_false]
  simp only [List.mem_append, badB, Bool.and_eq_true, Bool.or_eq_true, decide_eq_true_eq, Bool.not_eq_true]
  constructor
  · intro hh v hv
    have e := h v
    by_cases q : 0 < cS S v
    · exfalso
      have hm : v ∈ S.1 := List.count_pos_iff.1 (by unfold cS at q; omega)
      exact hh v (.inl hm) ⟨hv, by simp; exact q⟩
    · omega
  · rintro hh v hv ⟨h0, h1 | h1⟩
    · omega
    · have e := h v
      have := hh v h0
      omega
theorem anyBad_else {S : Sds} {o : Int} (h1 : o ≠ 1) (h2 : o ≠ -1) : anyBad S o = false := by
  unfold anyBad
  rw [List.any_eq_false]
  intro v _
  simp [badB, h1, h2]
/-- At the same weight, which one is greater by the heads or by the arguments. -/
def ByH (g : Sg) (a b : T) : Prop := 0 ≤ a.head ∧ 0 ≤ b.head ∧ (b.head < a.head ∨ (a.head = b.head ∧ gtL g a.args b.args = true))
theorem decV_stand {g : Sg} {S : Sds} {a b : T} {o : Int} (h : CntD S a.hds b.hds) (hne : a ≠ b) (ho : o = 1 ∨ o = -1 ∨ o = 2) (h1 : o = 1 ↔ ByH g a b) (h2 : o = -1 ↔ ByH g b a) : decV g S o = stand g a b := by
  have hw := h.wS g
  rw [sumA_hds, sumA_hds] at hw
  have g1 : gtK g a b = true ↔ Oft a b ∧ (wtT g b < wtT g a ∨ (wtT g a = wtT g b ∧ ByH g a b)) := gtK_iff
  have g2 : gtK g b a = true ↔ Oft b a ∧ (wtT g a < wtT g b ∨ (wtT g b = wtT g a ∧ ByH g b a)) := gtK_iff
  have hst : ∀ (x : Int), (x = 1 ↔ gtK g a b = true) → (x = -1 ↔ gtK g b a = true) → (x = 1 ∨ x = -1 ∨ x = 2) → x = stand g a b := by
    intro x k1 k2 k3
    rcases stand_cases g a b with ⟨_, e⟩ | ⟨e1, e2⟩ | ⟨e1, e2⟩ | ⟨e1, _, e2, e3⟩
    · exact absurd e hne
    · rw [e1]; exact k1.2 e2
    · rw [e1]; exact k2.2 e2
    · rw [e1]
      rcases k3 with k | k | k
      · have := k1.1 k; rw [e2] at this; cases this
      · have := k2.1 k; rw [e3] at this; cases this
      · exact k
  have key : ∀ x, decO g S o = x → (x = 1 ∨ x = -1 ∨ x = 2) → (x = 1 ↔ (wtT g b < wtT g a ∨ (wtT g a = wtT g b ∧ ByH g a b))) → (x = -1 ↔ (wtT g a < wtT g b ∨ (wtT g b = wtT g a ∧ ByH g b a))) → decV g S o = stand g a b := by
    intro x hx k3 k1 k2
    have hv : decV g S o = if anyBad S x then 2 else x := by unfold decV; rw [hx]
    apply hst
    · rw [g1, ← k1, hv, ← h.bad1]
      rcases k3 with rfl | rfl | rfl
      · cases anyBad S 1 <;> simp
      · cases anyBad S (-1) <;> simp
      · rw [anyBad_else (by omega) (by omega)]; simp
    · rw [g2, ← k2, hv, ← h.bad2]
      rcases k3 with rfl | rfl | rfl
      · cases anyBad S 1 <;> simp
      · cases anyBad S (-1) <;> simp
      · rw [anyBad_else (by omega) (by omega)]; simp
    · rw [hv]
      split
      · exact .inr (.inr rfl)
      · exact k3
  by_cases e : wtT g a = wtT g b
  · have hd : decO g S o = o := by unfold decO; rw [if_pos (by omega)]
    refine key o hd ho ?_ ?_
    · rw [h1]
      exact ⟨fun q => .inr ⟨e, q⟩, fun q => by rcases q with q | q; omega; exact q.2⟩
    · rw [h2]
      exact ⟨fun q => .inr ⟨e.symm, q⟩, fun q => by rcases q with q | q; omega; exact q.2⟩
  · have hd : decO g S o = ord (wS g S) 0 := by unfold decO; rw [if_neg (by omega)]
    by_cases e2 : wtT g b < wtT g a
    · have ho2 : ord (wS g S) 0 = 1 := by unfold ord; rw [if_neg (by omega), if_pos (by omega)]
      rw [ho2] at hd
      exact key 1 hd (.inl rfl) ⟨fun _ => .inl e2, fun _ => rfl⟩ ⟨fun q => by omega, fun q => by rcases q with q | q <;> omega⟩
    · have ho2 : ord (wS g S) 0 = -1 := by unfold ord; rw [if_pos (by omega)]
      rw [ho2] at hd
      exact key (-1) hd (.inr (.inl rfl)) ⟨fun q => by omega, fun q => by rcases q with q | q <;> omega⟩ ⟨fun _ => .inl (by omega), fun _ => rfl⟩
theorem byH_cases (a b : T) (h : a.head ≠ b.head) : byH a b = 1 ∨ byH a b = -1 ∨ byH a b = 2 := by
  unfold byH ord
  split
  · exact .inr (.inr rfl)
  · split
    · exact .inr (.inl rfl)
    · split
      · exact .inl rfl
      · omega
theorem byH_one {g : Sg} {a b : T} (h : a.head ≠ b.head) : byH a b = 1 ↔ ByH g a b := by
  unfold byH ByH ord
  split
  · constructor
    · intro q; omega
    · intro q; omega
  · split
    · constructor
      · intro q; omega
      · rintro ⟨_, _, q | q⟩
        · omega
        · exact absurd q.1 h
    · split
      · exact ⟨fun _ => ⟨by omega, by omega, .inl (by omega)⟩, fun _ => rfl⟩
      · omega
theorem byH_two {g : Sg} {a b : T} (h : a.head ≠ b.head) : byH a b = -1 ↔ ByH g b a := by
  unfold byH ByH ord
  split
  · constructor
    · intro q; omega
    · intro q; omega
  · split
    · exact ⟨fun _ => ⟨by omega, by omega, .inl (by omega)⟩, fun _ => rfl⟩
    · split
      · constructor
        · intro q; omega
        · rintro ⟨_, _, q | q⟩
          · omega
          · exact absurd q.1.symm h
      · omega
theorem decV_empty (g : Sg) : decV g ([], []) 0 = 0 := by
  have : decO g ([], []) 0 = 0 := by unfold decO wS; simp [sumA]
  unfold decV
  rw [this, anyBad_else (by omega) (by omega)]; rfl
end Go.Proofs.YtpncmdlbmnmahaaGreat

/- Kbo's scale: contract of its compare. -/
namespace Go.Proofs.YtpncmdlbmnmahaaGreat
set_option linter.unusedVariables false
set_option linter.unusedSimpArgs false
open Go.RowKit
def CmPost (Bs M : Nat) (g : Sg) (ga : Option Addr) (gc : Nat) (a b : T) (w : World) (e : Ending) (w' : World) : Prop :=
  e = .returned (.int .i64 (stand g a b)) ∧ ∃ S, Scl w' Bs M g ga gc S ∧ Sfr Bs M w w' ∧ (a = b → S = ([], [])) ∧ CntD S a.hds b.hds ∧ lenS S ≤ a.size + b.size
def CmI (Bs M : Nat) (g : Sg) (ga : Option Addr) (gc : Nat) (a b : T) (W2 : World) (ov i : Value) (wr : World) : Prop :=
  ∃ (k : Nat) (o : Int) (S : Sds), k ≤ a.args.length ∧ i = .int .i64 (k : Nat) ∧ ov = .int .i64 o ∧ Scl wr Bs M g ga gc S ∧ Sfr Bs M W2 wr ∧ CntD S (T.hdsL (a.args.take k)) (T.hdsL (b.args.take k)) ∧ lenS S ≤ T.sizes (a.args.take k) + T.sizes (b.args.take k) ∧
    ((o = 0 ∧ S = ([], []) ∧ a.args.take k = b.args.take k) ∨ (o ≠ 0 ∧ ∃ (j : Nat) (t u : T), a.args.take j = b.args.take j ∧ a.args[j]? = some t ∧ b.args[j]? = some u ∧ t ≠ u ∧ o = stand g t u))
/-- What decide makes of the end of the loop. -/
theorem cm_end {g : Sg} {a b : T} {o : Int} {S : Sds} (hh : a.head = b.head) (hl : a.args.length = b.args.length) (hpos : a.args ≠ [] → 0 ≤ a.head) (hc : CntD S (T.hdsL a.args) (T.hdsL b.args))
    (h : (o = 0 ∧ S = ([], []) ∧ a.args = b.args) ∨ (o ≠ 0 ∧ ∃ (j : Nat) (t u : T), a.args.take j = b.args.take j ∧ a.args[j]? = some t ∧ b.args[j]? = some u ∧ t ≠ u ∧ o = stand g t u)) :
    decV g S o = stand g a b ∧ (a = b → S = ([], [])) ∧ CntD S a.hds b.hds := by
  have hc2 : CntD S a.hds b.hds := fun v => by
    rw [hc v, T.hds_eq a, T.hds_eq b, hh, List.count_cons, List.count_cons]
    omega
  rcases h with ⟨rfl, rfl, ha⟩ | ⟨ho, j, t, u, h1, h2, h3, hne, rfl⟩
  · have e : a = b := by rw [← T.eta a, ← T.eta b, hh, ha]
    subst e
    exact ⟨by rw [decV_empty, stand_zero.2 rfl], fun _ => rfl, hc2⟩
  · have hab : a ≠ b := by
      rintro rfl
      rw [h2] at h3
      exact hne (Option.some.inj h3)
    have hn : a.args ≠ [] := by intro e; rw [e] at h2; simp at h2
    have h0 := hpos hn
    have e1 := gtL_at (g := g) h1 hl h2 h3 hne
    have e2 := gtL_at (g := g) h1.symm hl.symm h3 h2 hne.symm
    refine ⟨decV_stand hc2 hab ?_ ?_ ?_, fun e => absurd e hab, hc2⟩
    · rcases stand_cases g t u with ⟨_, e⟩ | ⟨e, _⟩ | ⟨e, _⟩ | ⟨e, _⟩
      · exact absurd e hne
      · exact .inl e
      · exact .inr (.inl e)
      · exact .inr (.inr e)
    · rw [stand_more, ← e1]
      exact ⟨fun q => ⟨h0, by omega, .inr ⟨hh, q⟩⟩, fun ⟨_, _, q⟩ => by rcases q with q | q; omega; exact q.2⟩
    · rw [stand_less, ← e2]
      exact ⟨fun q => ⟨by omega, h0, .inr ⟨hh.symm, q⟩⟩, fun ⟨_, _, q⟩ => by rcases q with q | q; omega; exact q.2⟩
theorem take_snoc_eq {a b : List T} {k : Nat} {s : T} (h : a.take k = b.take k) (h1 : a[k]? = some s) (h2 : b[k]? = some s) : a.take (k + 1) = b.take (k + 1) := by
  obtain ⟨i1, e1⟩ := List.getElem?_eq_some_iff.1 h1
  obtain ⟨i2, e2⟩ := List.getElem?_eq_some_iff.1 h2
  rw [List.take_succ_eq_append_getElem i1, List.take_succ_eq_append_getElem i2, h, e1, e2]
theorem CntD.snoc {S S' : Sds} {A B L R : List Int} (h : CntD S A B) (h' : ∀ v, cS S' v = cS S v + (L.count v : Nat) - (R.count v : Nat)) : CntD S' (A ++ L) (B ++ R) := fun v => by
  rw [h' v, h v, List.count_append, List.count_append]; omega
set_option maxRecDepth 100000 in
set_option maxHeartbeats 4000000 in
theorem scCmp_any (g : Sg) (hr : rightG g = true) : ∀ (N : Nat) (a b : T), a.size ≤ N → fitsT g a = true → bad (T.subs 1 a) = false → fitsT g b = true → bad (T.subs 1 b) = false → a.size + b.size ≤ 400000 →
    ∀ (n₀ : Nat) (ga : Option Addr) (gc : Nat) (pa : Option Addr) (ca : Nat) (pb : Option Addr) (cb Bs M : Nat) (w : World), n₀ ≤ Bs → n₀ ≤ M → n₀ ≤ w.heap.size → IsSg n₀ w g ga gc → (Lit.int .i64 a.head).wf = true → (Lit.int .i64 b.head).wf = true → IsArgs n₀ w a.args pa ca → IsArgs n₀ w b.args pb cb → Scl w Bs M g ga gc ([], []) →
    Calls Tryz.prog 109 #[.pointer (some ⟨Bs, 0, none⟩), tm a.head pa a.args.length ca, tm b.head pb b.args.length cb] w (CmPost Bs M g ga gc a b w) := by
  intro N
  induction N with
  | zero => intro a b ht; have := T.size_pos a; omega
  | succ N ih =>
    intro a b ht hfa hba hfb hbb hlen n₀ ga gc pa ca pb cb Bs M w hnB hnM hn hG hwa hwb hA hB hS
    have IH := Lib.hid ih
    clear ih
    have hBl := hS.lt
    have hMl := hS.map.lt
    obtain ⟨W1, hW1⟩ : ∃ W1, w.alloc (tmCells a.head pa a.args.length ca) = W1 := ⟨_, rfl⟩
    have hs1 : W1.heap.size = w.heap.size + 1 := by rw [← hW1]; simp
    have hF1 : Below w.heap.size w W1 := by rw [← hW1]; exact (Below.refl _ w).alloc (Nat.le_refl _) _
    have L1 : Later (fun X => Vc w.heap.size a.head pa a.args.length ca X) W1 := by rw [← hW1]; exact later_var w _ _ _ _
    obtain ⟨W2, hW2⟩ : ∃ W2, W1.alloc (tmCells b.head pb b.args.length cb) = W2 := ⟨_, rfl⟩
    have hs2 : W2.heap.size = w.heap.size + 2 := by rw [← hW2]; simp; omega
    have hF2 : Below w.heap.size w W2 := by rw [← hW2]; exact hF1.alloc (by omega) _
    have L2 : Later (fun X => Vc W1.heap.size b.head pb b.args.length cb X) W2 := by rw [← hW2]; exact later_var W1 _ _ _ _
    obtain ⟨hv0, hv1⟩ := (L1.mv (by rw [← hW2]; exact (Below.refl _ W1).alloc (Nat.le_refl _) _) : Later (fun X => Vc w.heap.size a.head pa a.args.length ca X) W2).now
    obtain ⟨hu0, hu1⟩ := L2.now
    rw [hs1] at hu0 hu1
    have hS2 := hS.later hF2
    have hbB : w.heap.size ≠ Bs := by omega
    have hbM : w.heap.size ≠ M := by omega
    have hbB1 : w.heap.size + 1 ≠ Bs := by omega
    have hbM1 : w.heap.size + 1 ≠ M := by omega
    have hG2 := hG.below (hF2.mono hn)
    have hA2 := hA.below (hF2.mono hn)
    have hB2 := hB.below (hF2.mono hn)
    by_cases q1 : a.head = b.head
    · have hl : b.args.length = a.args.length := by
        by_cases h0 : a.head < 0
        · rw [good_var hba h0, good_var hbb (by omega)]
        · exact (fits_arity hfa hfb (by omega) q1).symm
      have hpos : a.args ≠ [] → 0 ≤ a.head := fun hne => by
        by_cases h0 : a.head < 0
        · exact absurd (good_var hba h0) hne
        · omega
      rw [hl] at hu1 hW2 ⊢
      rw [← q1] at hu0 hW2 ⊢
      have HEND := Lib.hid (fun (o : Int) (S : Sds) => cm_end (g := g) (a := a) (b := b) (o := o) (S := S) q1 hl.symm hpos)
      have HSA := Lib.hid (fun (s : T) (hs : s ∈ a.args) => fits_args hfa hba s hs)
      have HSB := Lib.hid (fun (s : T) (hs : s ∈ b.args) => fits_args hfb hbb s hs)
      have HSZ := Lib.hid (show a.size = 1 + T.sizes a.args ∧ b.size = 1 + T.sizes b.args ∧ a.size ≤ N + 1 ∧ a.size + b.size ≤ 400000 from ⟨T.size_eq a, T.size_eq b, ht, hlen⟩)
      have HA := Lib.hid hA2
      have HBA := Lib.hid hB2
      have HG := Lib.hid hG2
      have HS2 := Lib.hid hS2
      have HF2 := Lib.hid hF2
      have HN := Lib.hid (show n₀ ≤ W2.heap.size ∧ n₀ ≤ Bs ∧ n₀ ≤ M from ⟨by omega, hnB, hnM⟩)
      have HL := Lib.hid hl
      have hlc : a.args.length ≤ ca ∧ ca ≤ maxLen := ⟨hA.1, hA.2.1⟩
      have hlb : a.args.length ≤ cb ∧ cb ≤ maxLen := ⟨by rw [← hl]; exact hB.1, hB.2.1⟩
      unfold maxLen at hlc hlb
      obtain ⟨hl1, hl2⟩ := hlc
      obtain ⟨hl3, hl4⟩ := hlb
      have hz1 : w.heap.size < W2.heap.size := by omega
      have hz2 : w.heap.size + 1 < W2.heap.size := by omega
      clear hG hA hB hS hS2 hF1 L1 L2 hF2 hG2 hA2 hB2 q1 hl hpos hfa hba hfb hbb hwa hwb ht hlen
      go_enter Tryz.func109, Tryz.ntmps109
      go_wp2
      clear hW1 hW2
      go_loopw [7, 26] (fun ov i wr => CmI Bs M g ga gc a b W2 ov i wr) (fun _ i _ => a.args.length - (intOf i).toNat)
      case atStart => exact ⟨0, 0, ([], []), Nat.zero_le _, rfl, rfl, HS2.out, Sfr.refl _ _ _, by simpa [T.hdsL] using CntD.nil [], by simp [lenS], .inl ⟨rfl, rfl, by simp⟩⟩
      case round =>
        obtain ⟨k, o, S, hk, rfl, rfl, hSk, hFk, hck, hlk, hok⟩ := hrel
        have HSk := Lib.hid hSk
        have HFk := Lib.hid hFk
        have HCk := Lib.hid hck
        have HLk := Lib.hid hlk
        have HOk := Lib.hid hok
        have hav : wr.cell? ⟨w.heap.size, 1, none⟩ = some (.slice pa a.args.length ca) := (hFk.cell hz1 hbB hbM).trans hv1
        have hbv : wr.cell? ⟨w.heap.size + 1, 1, none⟩ = some (.slice pb a.args.length cb) := (hFk.cell hz2 hbB1 hbM1).trans hu1
        have hBw : Below n₀ W2 wr := hFk.below HN.out.2.1 HN.out.2.2 HN.out.1
        have hszr := hFk.size
        by_cases hlt : k < a.args.length
        · obtain ⟨b1, o1, s, a1, c1, rfl, hbn1, hs, hswf, hcs1, hcs2, hA'⟩ := (HA.out.below hBw).elem (i := k) hlt
          obtain ⟨b2, o2, u, a2, c2, rfl, hbn2, hu, huwf, hcu1, hcu2, hB'⟩ := (HBA.out.below hBw).elem (i := k) (by rw [HL.out]; exact hlt)
          have hk0 : (0 : Int) ≤ (k : Int) := Int.natCast_nonneg _
          have hk1 : (k : Int) < (a.args.length : Int) := by omega
          have hnw := HN.out.1
          have hb1w : b1 < wr.heap.size := by omega
          have hb2w : b2 < wr.heap.size := by omega
          obtain ⟨hfs, hbs⟩ := HSA.out s (List.mem_of_getElem? hs)
          obtain ⟨hfu, hbu⟩ := HSB.out u (List.mem_of_getElem? hu)
          obtain ⟨z1, z2, z3, z4⟩ := HSZ.out
          have y1 := T.size_lt_of_mem hs
          have y2 := T.size_lt_of_mem hu
          have x1 := T.sizes_take hs
          have x2 := T.sizes_take hu
          have x3 := T.sizes_append (a.args.take (k + 1)) (a.args.drop (k + 1))
          have x4 := T.sizes_append (b.args.take (k + 1)) (b.args.drop (k + 1))
          rw [List.take_append_drop] at x3 x4
          have HD1 := Lib.hid (hdsL_take' hs)
          have HD2 := Lib.hid (hdsL_take' hu)
          have HX := Lib.hid (And.intro x1 x2)
          have HSU := Lib.hid (And.intro hs hu)
          by_cases ho : o = 0
          · obtain ⟨rfl, htk⟩ : S = ([], []) ∧ a.args.take k = b.args.take k := by
              rcases hok with h | h
              · exact h.2
              · exact absurd ho h.1
            have HCALL := Lib.hid (IH.out s u (by omega) hfs hbs hfu hbu (by omega) n₀ ga gc a1 c1 a2 c2 Bs M wr.drew HN.out.2.1 HN.out.2.2 (by show n₀ ≤ wr.heap.size; omega) (HG.out.below hBw.drew) hswf huwf (hA'.below (Below.refl _ _).drew) (hB'.below (Below.refl _ _).drew) (hSk.kept rfl rfl))
            have HTK := Lib.hid htk
            clear hA' hB' hs hu hSk hFk hck hlk hok hBw hfs hbs hfu hbu z1 z2 z3 z4 y1 y2 x1 x2 x3 x4 htk hv0 hv1 hu0 hu1
            subst ho
            go_wp2
            go_still_tail 11, (by kernel_rfl)
            change wpList _ _ _ _ _ wr.drew
            go_wp2_with fail
            refine HCALL.out.mono ?_
            rintro e w5 ⟨rfl, S5, hS5, hF5, he5, hc5, hl5⟩
            have HS5 := Lib.hid hS5
            have HF5 := Lib.hid ((HFk.out.drew).trans hF5)
            have HR := Lib.hid (And.intro he5 (And.intro hc5 hl5))
            clear hS5 hF5 he5 hc5 hl5
            go_wp2
            go_roundw
            case rel =>
              obtain ⟨he5, hc5, hl5⟩ := HR.out
              obtain ⟨hs, hu⟩ := HSU.out
              refine ⟨k + 1, _, S5, by omega, by go_num, rfl, HS5.out, HF5.out, ?_, ?_, ?_⟩
              · rw [HD1.out, HD2.out, HTK.out]
                exact fun v => by rw [hc5 v, List.count_append, List.count_append]; omega
              · have := HX.out; omega
              · by_cases hsu : s = u
                · subst hsu
                  exact .inl ⟨stand_zero.2 rfl, he5 rfl, take_snoc_eq HTK.out hs hu⟩
                · exact .inr ⟨fun e => hsu (stand_zero.1 e), k, s, u, HTK.out, hs, hu, hsu, rfl⟩
            case measure => simp [intOf]; omega
          · have hold := hok.resolve_left (fun h => ho h.1)
            have HOLD := Lib.hid hold
            have HCALL := Lib.hid (scAdd_any g hr s u hfs hbs hfu hbu S (by omega) n₀ ga gc a1 c1 a2 c2 Bs M wr.drew HN.out.2.1 HN.out.2.2 (by show n₀ ≤ wr.heap.size; omega) (HG.out.below hBw.drew) hswf huwf (hA'.below (Below.refl _ _).drew) (hB'.below (Below.refl _ _).drew) (hSk.kept rfl rfl))
            have ho2 : (o == 0) = false := by simpa using ho
            clear hA' hB' hs hu hSk hFk hck hlk hok hBw hfs hbs hfu hbu z1 z2 z3 z4 y1 y2 x1 x2 x3 x4 hold hv0 hv1 hu0 hu1 ho
            go_wp2
            go_still_tail 11, (by kernel_rfl)
            change wpList _ _ _ _ _ wr.drew
            go_wp2_with fail
            refine HCALL.out.mono ?_
            rintro e w5 ⟨rfl, hS5, hF5⟩
            have HS5 := Lib.hid hS5
            have HF5 := Lib.hid ((HFk.out.drew).trans hF5)
            clear hS5 hF5
            go_wp2
            go_roundw
            case rel =>
              refine ⟨k + 1, o, ab S s u, by omega, by go_num, rfl, HS5.out, HF5.out, ?_, ?_, .inr HOLD.out⟩
              · rw [HD1.out, HD2.out]
                exact HCk.out.put
              · have h1 := HX.out
                have h2 := HLk.out
                unfold ab
                rw [lenS_pl, lenS_pl, T.hds_length, T.hds_length]
                omega
            case measure => simp [intOf]; omega
        · obtain rfl : k = a.args.length := by omega
          have htb : b.args.take a.args.length = b.args := by rw [← HL.out, List.take_length]
          rw [List.take_length, htb] at hck hlk hok
          obtain ⟨e1, e2, e3⟩ := HEND.out o S hck hok
          have HE := Lib.hid (And.intro e1 (And.intro e2 e3))
          have hl9 : lenS S ≤ a.size + b.size := by have := HSZ.out; omega
          have HL9 := Lib.hid hl9
          have HDC := Lib.hid (decide_any g hr S o (by have := HSZ.out; omega) ga gc Bs M wr hSk)
          clear hSk hFk hck hlk hok hBw e1 e2 e3 hl9 htb hv0 hv1 hu0 hu1
          go_wp2_with fail
          refine HDC.out.mono ?_
          rintro e w5 ⟨rfl, hb5⟩
          have HS5 := Lib.hid (HSk.out.later hb5)
          have HF5 := Lib.hid (((Sfr.of_below HF2.out).trans HFk.out).trans (Sfr.of_below hb5))
          clear hb5
          go_wp2
          go_ret
          exact ⟨by rw [HE.out.1]; rfl, S, HS5.out, HF5.out, HE.out.2.1, HE.out.2.2, HL9.out⟩
    · have P1 := Lib.hid (scAdd_any g hr a b hfa hba hfb hbb ([], []) (by simp [lenS]; omega) n₀ ga gc pa ca pb cb Bs M W2 hnB hnM (by omega) hG2 hwa hwb hA2 hB2 hS2)
      have hcnt : CntD (ab ([], []) a b) a.hds b.hds := by
        have := (CntD.nil []).put (L := a.hds) (R := b.hds)
        simpa [ab] using this
      have hab : a ≠ b := fun e => q1 (by rw [e])
      have HV := Lib.hid (decV_stand hcnt hab (byH_cases a b q1) (byH_one (g := g) q1) (byH_two (g := g) q1))
      have hls : lenS (ab ([], []) a b) = a.size + b.size := by unfold ab; rw [lenS_pl, lenS_pl, T.hds_length, T.hds_length]; simp [lenS]
      have HCN := Lib.hid hcnt
      have HAB := Lib.hid hab
      have HLS := Lib.hid hls
      have HF2 := Lib.hid hF2
      have HBY := Lib.hid (fun W => byHead_any a b pa a.args.length ca pb b.args.length cb W)
      have HDC := Lib.hid (fun (W : World) (hW : Scl W Bs M g ga gc (ab ([], []) a b)) => decide_any g hr (ab ([], []) a b) (byH a b) (by omega) ga gc Bs M W hW)
      have q2 : (a.head != b.head) = true := by simpa using q1
      clear hG hA hB hS hS2 hF1 L1 L2 hF2 hG2 hA2 hB2 hcnt hab hls q1
      go_enter Tryz.func109, Tryz.ntmps109
      go_wp2_with fail
      refine P1.out.mono ?_
      rintro e w3 ⟨rfl, hS3, hF3⟩
      have hv0' : w3.cell? ⟨w.heap.size, 0, none⟩ = some (.int .i64 a.head) := (hF3.cell (by omega) hbB hbM).trans hv0
      have hv1' : w3.cell? ⟨w.heap.size, 1, none⟩ = some (.slice pa a.args.length ca) := (hF3.cell (by omega) hbB hbM).trans hv1
      have hu0' : w3.cell? ⟨w.heap.size + 1, 0, none⟩ = some (.int .i64 b.head) := (hF3.cell (by omega) hbB1 hbM1).trans hu0
      have hu1' : w3.cell? ⟨w.heap.size + 1, 1, none⟩ = some (.slice pb b.args.length cb) := (hF3.cell (by omega) hbB1 hbM1).trans hu1
      have HS3 := Lib.hid hS3
      have HF3 := Lib.hid ((Sfr.of_below HF2.out).trans hF3)
      clear hS3 hF3
      go_wp2_with fail
      refine (HBY.out _).mono ?_
      rintro e w4 ⟨rfl, hb4⟩
      have HS4 := Lib.hid (HS3.out.later hb4)
      have HF4 := Lib.hid (HF3.out.trans (Sfr.of_below hb4))
      clear hb4
      go_wp2_with fail
      refine (HDC.out _ HS4.out).mono ?_
      rintro e w5 ⟨rfl, hb5⟩
      have HS5 := Lib.hid (HS4.out.later hb5)
      have HF5 := Lib.hid (HF4.out.trans (Sfr.of_below hb5))
      clear hb5
      go_wp2
      go_ret
      exact ⟨by rw [HV.out]; rfl, _, HS5.out, HF5.out, fun e => absurd e HAB.out, HCN.out, by rw [HLS.out]; exact Nat.le_refl _⟩
end Go.Proofs.YtpncmdlbmnmahaaGreat

/- Contracts of kbo's compare and firstError. -/
namespace Go.Proofs.YtpncmdlbmnmahaaGreat
set_option linter.unusedVariables false
set_option linter.unusedSimpArgs false
open Go.RowKit
set_option maxRecDepth 100000 in
set_option maxHeartbeats 4000000 in
theorem kcmp_any (g : Sg) (hr : rightG g = true) (a b : T) (hfa : fitsT g a = true) (hba : bad (T.subs 1 a) = false) (hfb : fitsT g b = true) (hbb : bad (T.subs 1 b) = false) (hlen : a.size + b.size ≤ 400000)
    (n₀ : Nat) (ga : Option Addr) (gc : Nat) (pa : Option Addr) (ca : Nat) (pb : Option Addr) (cb : Nat) (w : World) (hn : n₀ ≤ w.heap.size) (hG : IsSg n₀ w g ga gc) (hwa : (Lit.int .i64 a.head).wf = true) (hwb : (Lit.int .i64 b.head).wf = true) (hA : IsArgs n₀ w a.args pa ca) (hB : IsArgs n₀ w b.args pb cb) :
    Calls Tryz.prog 77 #[.slice ga g.length gc, tm a.head pa a.args.length ca, tm b.head pb b.args.length cb] w fun e w' => e = .returned (.int .i64 (stand g a b)) ∧ Below w.heap.size w w' := by
  have hmm := @run_makeMap Tryz.prog
  obtain ⟨W1, hW1⟩ : ∃ W1, w.alloc (tmCells a.head pa a.args.length ca) = W1 := ⟨_, rfl⟩
  have hs1 : W1.heap.size = w.heap.size + 1 := by rw [← hW1]; simp
  have hF1 : Below w.heap.size w W1 := by rw [← hW1]; exact (Below.refl _ w).alloc (Nat.le_refl _) _
  have L1 : Later (fun X => Vc w.heap.size a.head pa a.args.length ca X) W1 := by rw [← hW1]; exact later_var w _ _ _ _
  obtain ⟨W2, hW2⟩ : ∃ W2, W1.alloc (tmCells b.head pb b.args.length cb) = W2 := ⟨_, rfl⟩
  have hs2 : W2.heap.size = w.heap.size + 2 := by rw [← hW2]; simp; omega
  have hF2 : Below w.heap.size w W2 := by rw [← hW2]; exact hF1.alloc (by omega) _
  have L2 : Later (fun X => Vc W1.heap.size b.head pb b.args.length cb X) W2 := by rw [← hW2]; exact later_var W1 _ _ _ _
  have L1' : Later (fun X => Vc w.heap.size a.head pa a.args.length ca X) W2 := L1.mv (by rw [← hW2]; exact (Below.refl _ W1).alloc (Nat.le_refl _) _)
  obtain ⟨W3, hW3⟩ : ∃ W3, W2.alloc (.map #[] 0) = W3 := ⟨_, rfl⟩
  have hs3 : W3.heap.size = w.heap.size + 3 := by rw [← hW3]; simp; omega
  have hF3 : Below W2.heap.size W2 W3 := by rw [← hW3]; exact (Below.refl _ W2).alloc (Nat.le_refl _) _
  have hM3 : DifM W3 (w.heap.size + 2) ([], []) := by rw [← hW3, ← hs2]; exact DifM.made W2
  obtain ⟨W4, hW4⟩ : ∃ W4, W3.alloc (.cells #[.slice ga g.length gc, .int .i64 0, .map (some (w.heap.size + 2))] 134) = W4 := ⟨_, rfl⟩
  have hs4 : W4.heap.size = w.heap.size + 4 := by rw [← hW4]; simp; omega
  have hF4 : Below W2.heap.size W2 W4 := by rw [← hW4]; exact hF3.alloc (by omega) _
  have hM4 : DifM W4 (w.heap.size + 2) ([], []) := hM3.kept (by rw [← hW4]; exact Below.heap_alloc _ _ _ (by omega))
  have hS4 : Scl W4 (w.heap.size + 3) (w.heap.size + 2) g ga gc ([], []) := by
    refine ⟨?_, ?_, ?_, ?_, hM4, by simp⟩
    · rw [← hW4, ← hs3]; simp [go_sem]
    · rw [← hW4, ← hs3]; simp [go_sem, wS, sumA]
    · rw [← hW4, ← hs3]; simp [go_sem]
    · rw [← hW4, ← hs3]; simp [go_sem]
  have hb4 : Below w.heap.size w W4 := hF2.trans (hF4.mono (by omega))
  obtain ⟨hv0, hv1⟩ := (L1'.mv hF4).now
  obtain ⟨hu0, hu1⟩ := (L2.mv hF4).now
  rw [hs1] at hu0 hu1
  have HC := Lib.hid (scCmp_any g hr a.size a b (Nat.le_refl _) hfa hba hfb hbb hlen n₀ ga gc pa ca pb cb (w.heap.size + 3) (w.heap.size + 2) W4 (by omega) (by omega) (by omega) (hG.below (hb4.mono hn)) hwa hwb (hA.below (hb4.mono hn)) (hB.below (hb4.mono hn)) hS4)
  have HB4 := Lib.hid hb4
  clear hG hA hB hF1 L1 hF2 L2 L1' hF3 hM3 hF4 hM4 hS4 hb4
  go_enter Tryz.func77, Tryz.ntmps77
  go_wp2_with fail
  refine HC.out.mono ?_
  rintro e w5 ⟨rfl, S, hS5, hF5, _⟩
  have HB5 := Lib.hid (HB4.out.trans (hF5.below (B := w.heap.size) (by omega) (by omega) (by omega)))
  clear hS5 hF5
  go_wp2
  go_ret
  exact ⟨rfl, HB5.out⟩
/-- The first error of a row. -/
def errF (g : Sg) : List T → Int
  | [] => 0
  | t :: ts => if errT g t ≠ 0 then errT g t else errF g ts
def FeI (g : Sg) (ts : List T) (w : World) (i : Value) (wr : World) : Prop := ∃ k : Nat, k ≤ ts.length ∧ i = .int .i64 (k : Nat) ∧ errF g ts = errF g (ts.drop k) ∧ Below w.heap.size w wr
set_option maxRecDepth 100000 in
set_option maxHeartbeats 4000000 in
theorem firstError_any (g : Sg) (ts : List T) (hsz : ∀ t ∈ ts, t.size ≤ 1000000000000) (n₀ : Nat) (ga : Option Addr) (gc : Nat) (a : Option Addr) (c : Nat) (w : World) (hn : n₀ ≤ w.heap.size) (hG : IsSg n₀ w g ga gc) (hA : IsArgs n₀ w ts a c) :
    Calls Tryz.prog 57 #[.slice ga g.length gc, .slice a ts.length c] w fun e w' => e = .returned (.int .i64 (errF g ts)) ∧ Below w.heap.size w w' := by
  have hlc : ts.length ≤ c ∧ c ≤ maxLen := ⟨hA.1, hA.2.1⟩
  unfold maxLen at hlc
  obtain ⟨hl1, hl2⟩ := hlc
  have HA := Lib.hid hA
  have HG := Lib.hid hG
  have HSZ := Lib.hid hsz
  clear hA hG hsz
  go_enter Tryz.func57, Tryz.ntmps57
  go_wp2
  go_loopw [10] (fun i wr => FeI g ts w i wr) (fun i _ => ts.length - (intOf i).toNat)
  case atStart => exact ⟨0, Nat.zero_le _, rfl, by simp, Below.refl _ _⟩
  case round =>
    obtain ⟨k, hk, rfl, hE, hB⟩ := hrel
    have HE := Lib.hid hE
    have HB := Lib.hid hB
    have hbz := hB.size
    clear hE hB
    by_cases hlt : k < ts.length
    · obtain ⟨b, o, s, a', c', rfl, hbn, hs, hswf, hc1, hc2, hA'⟩ := (HA.out.below (HB.out.mono hn)).elem (i := k) hlt
      have hk0 : (0 : Int) ≤ (k : Int) := Int.natCast_nonneg _
      have hk1 : (k : Int) < (ts.length : Int) := by omega
      have hbw : b < wr.heap.size := by omega
      obtain ⟨W1, hW1⟩ : ∃ W1, wr.alloc (tmCells s.head a' s.args.length c') = W1 := ⟨_, rfl⟩
      have hF1 : Below wr.heap.size wr W1 := by rw [← hW1]; exact (Below.refl _ wr).alloc (Nat.le_refl _) _
      obtain ⟨hv0, hv1⟩ := (show Later (fun X => Vc wr.heap.size s.head a' s.args.length c' X) W1 from by rw [← hW1]; exact later_var wr _ _ _ _).now
      have hBW : Below n₀ w W1 := (HB.out.mono hn).trans (hF1.mono (by omega))
      have HC := Lib.hid (sgTerm_any g s (HSZ.out s (List.mem_of_getElem? hs)) n₀ ga gc a' c' W1 (by have := hF1.size; omega) (HG.out.below hBW) hswf (hA'.below (hF1.mono (by omega))))
      have HF1 := Lib.hid (HB.out.trans (hF1.mono hbz))
      have hst : errF g (ts.drop k) = if errT g s ≠ 0 then errT g s else errF g (ts.drop (k + 1)) := by
        obtain ⟨hkl, hke⟩ := List.getElem?_eq_some_iff.1 hs
        rw [List.drop_eq_getElem_cons hkl, hke]; rfl
      have HST := Lib.hid hst
      clear hs hswf hA' hst hBW hF1
      go_wp2_with fail
      refine HC.out.mono ?_
      rintro e w2 ⟨rfl, hb2⟩
      have HB2 := Lib.hid (HF1.out.trans (hb2.mono HF1.out.size))
      clear hb2
      obtain ⟨r, hr⟩ : ∃ r, errT g s = r := ⟨_, rfl⟩
      rw [hr] at HST ⊢
      clear hr
      by_cases h0 : r = 0
      · have HN := Lib.hid (show errF g ts = errF g (ts.drop (k + 1)) from by rw [HE.out, HST.out, if_neg (by simpa using h0)])
        subst h0
        go_wp2
        go_roundw
        case rel => exact ⟨k + 1, by omega, by go_num, HN.out, HB2.out⟩
        case measure => simp [intOf]; omega
      · have HN := Lib.hid (show errF g ts = r from by rw [HE.out, HST.out, if_pos h0])
        have h1 : (r != 0) = true := by simpa using h0
        clear h0
        go_wp2
        go_ret
        exact ⟨by rw [HN.out]; rfl, HB2.out⟩
    · obtain rfl : k = ts.length := by omega
      have HN := Lib.hid (show errF g ts = 0 from by rw [HE.out, List.drop_of_length_le (Nat.le_refl _)]; rfl)
      go_wp2
      go_ret
      exact ⟨by rw [HN.out]; rfl, HB.out⟩
end Go.Proofs.YtpncmdlbmnmahaaGreat
