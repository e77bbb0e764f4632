/- Contract of the reference's At. -/
import Derived.Test.YtdigccbffphilaaAt
import Derived.BigQuiet
import Derived.Deep.QuietTactic
import Derived.Deep.RegionHeld3
namespace Go.Proofs.Ytdigccbffphilaa
set_option linter.unusedVariables false
set_option linter.unusedSimpArgs false
open Go.RowKit

theorem IsIs.tail {n₀ : Nat} {w : World} {z : Int} {zs : List Int} {b o c : Nat} (h : IsIs n₀ w (z :: zs) (some ⟨b, o, none⟩) c) : IsIs n₀ w zs (if c = 1 then some ⟨b, o, none⟩ else some ⟨b, o + 1, none⟩) (c - 1) := by
  obtain ⟨h1, h2, h3⟩ := h
  simp at h1
  refine ⟨by omega, by omega, ?_⟩
  rcases h3 with h3 | ⟨b', o', e, hb, hc⟩
  · cases h3
  · cases e
    by_cases h4 : c = 1
    · left; exact List.eq_nil_of_length_eq_zero (by omega)
    · rw [if_neg h4]
      exact .inr ⟨b, o + 1, rfl, hb, fun j y hy => by rw [show o + 1 + j = o + (j + 1) from by omega]; exact hc (j + 1) y (by simpa using hy)⟩

/-- What At answers, with the values' form first. -/
def AtU (n₀ : Nat) (t : T) (p : List Int) (w : World) (e : Ending) (w' : World) : Prop :=
  ∃ hd av nv cv bv, e = .returned (.tuple #[tm hd av nv cv, .bool bv]) ∧ Below w.heap.size w w' ∧ ((∃ s, t.at p = some s ∧ hd = s.head ∧ nv = s.args.length ∧ bv = true ∧ (Lit.int .i64 s.head).wf = true ∧ IsArgs n₀ w' s.args av cv) ∨ (t.at p = none ∧ hd = 0 ∧ av = none ∧ nv = 0 ∧ cv = 0 ∧ bv = false))
theorem atU_of {n₀ : Nat} {t : T} {p : List Int} {w w' : World} {e : Ending} (h : AtPost n₀ t p w e w') : AtU n₀ t p w e w' := by
  rcases h with ⟨s, a, c, h1, h2, h3, h4, h5⟩ | ⟨h1, h2, h3⟩
  · exact ⟨_, _, _, _, _, h2, h5, .inl ⟨s, h1, rfl, rfl, rfl, h3, h4⟩⟩
  · exact ⟨_, _, _, _, _, h2, h3, .inr ⟨h1, rfl, rfl, rfl, rfl, rfl⟩⟩

set_option maxRecDepth 100000 in
set_option maxHeartbeats 4000000 in
theorem refAt_any : ∀ (p : List Int) (t : T) (n₀ : Nat) (a : Option Addr) (c : Nat) (ap : Option Addr) (cp : Nat) (w : World), n₀ ≤ w.heap.size → (Lit.int .i64 t.head).wf = true → IsArgs n₀ w t.args a c → IsIs n₀ w p ap cp →
    Calls Try.prog 13 #[tm t.head a t.args.length c, .slice ap p.length cp] w (AtPost n₀ t p w) := by
  intro p
  induction p with
  | nil =>
    intro t n₀ a c ap cp w hn hwf hA hP
    have hb2 : Below w.heap.size w ((w.alloc (tmCells t.head a t.args.length c)).alloc (tmCells t.head a t.args.length c)) := ((Below.refl _ w).alloc (Nat.le_refl _) _).alloc (by simp) _
    have HA := Lib.hid (hA.below (hb2.mono hn))
    have HB := Lib.hid hb2
    clear hA hb2
    go_enter Try.func13, Try.ntmps13
    go_wp2
    exact bodyPost_ret (v := .tuple #[tm t.head a t.args.length c, .bool true]) (by simp [results, Try.results13, go_sem]) rfl (.inl ⟨t, a, c, rfl, rfl, hwf, HA.out, HB.out⟩)
  | cons z p ih =>
    intro t n₀ a c ap cp w hn hwf hA hP
    have IH := Lib.hid ih
    have hpl : (z :: p).length ≤ cp ∧ cp ≤ maxLen := ⟨hP.1, hP.2.1⟩
    unfold maxLen at hpl
    obtain ⟨hp1, hp2⟩ := hpl
    obtain ⟨b, o, z', rfl, hb, hz, hcz⟩ := hP.elem (k := 0) (by simp)
    simp at hz
    subst hz
    simp only [Nat.add_zero] at hcz
    have hT := hP.tail
    have HT := Lib.hid hT
    have HA := Lib.hid hA
    have HP := Lib.hid hP
    have hlc : t.args.length ≤ c ∧ c ≤ maxLen := ⟨hA.1, hA.2.1⟩
    unfold maxLen at hlc
    obtain ⟨hl1, hl2⟩ := hlc
    have hb2 : Below w.heap.size w ((w.alloc (tmCells t.head a t.args.length c)).alloc (tmCells 0 none 0 0)) := ((Below.refl _ w).alloc (Nat.le_refl _) _).alloc (by simp) _
    have hcz2 := (hb2.cell (p := ⟨b, o, none⟩) (by simp; omega)).trans hcz
    have k1 : ((w.alloc (tmCells t.head a t.args.length c)).alloc (tmCells 0 none 0 0)).cell? ⟨w.heap.size, 1, none⟩ = some (.slice a t.args.length c) := by simp [go_sem]
    have k2 : ((w.alloc (tmCells t.head a t.args.length c)).alloc (tmCells 0 none 0 0)).heap[w.heap.size + 1]? = some (.cells #[.int .i64 0, .slice none 0 0] 24 (0, 0)) := by
      have := heap_alloc_new (w.alloc (tmCells t.head a t.args.length c)) (tmCells 0 none 0 0)
      simpa using this
    have hsz2 : ((w.alloc (tmCells t.head a t.args.length c)).alloc (tmCells 0 none 0 0)).heap.size = w.heap.size + 2 := by simp
    have E := Lib.hid (And.intro hb2 (And.intro hcz2 (And.intro k1 (And.intro k2 hsz2))))
    clear ih hP hA hT hb2 hcz hcz2 k1 k2 hsz2
    go_enter Try.func13, Try.ntmps13
    go_wp2
    generalize (w.alloc (tmCells t.head a t.args.length c)).alloc (tmCells 0 none 0 0) = w2 at E ⊢
    obtain ⟨hb2, hcz, k1, k2, hsz2⟩ := E.out
    have hi0 : (0 : Int) < (p.length : Int) + 1 := by omega
    have hi1 : 0 < p.length + 1 := by omega
    by_cases hcond : z < 0 ∨ (t.args.length : Int) ≤ z
    · by_cases hneg : z < 0
      · have hd : decide (z < 0) = true := by simpa using hneg
        go_quiet (fail)
        rename_i nq
        generalize hw3 : w2.drewN nq = w3
        have hb3 : Below w2.heap.size w2 w3 := by rw [← hw3]; exact below_drewN (Below.refl _ _) _
        have k3 := (hb3.block (w.heap.size + 1) (by omega)).trans k2
        have r0 : w3.cell? ⟨w.heap.size + 1, 0, none⟩ = some (.int .i64 0) := by simp [World.cell?, k3]
        have r1 : w3.cell? ⟨w.heap.size + 1, 1, none⟩ = some (.slice none 0 0) := by simp [World.cell?, k3]
        have rf0 : w3.frozen? ⟨w.heap.size + 1, 0, none⟩ = false := by simp [World.frozen?, k3]
        have rf1 : w3.frozen? ⟨w.heap.size + 1, 1, none⟩ = false := by simp [World.frozen?, k3]
        have HB3 := Lib.hid (hb2.trans (hb3.mono hb2.size))
        clear hb3 k3 hw3 hb2 k2
        go_wp2
        refine bodyPost_ret (v := .tuple #[tm 0 none 0 0, .bool false]) (by simp [results, Try.results13, go_sem, r0, r1]) rfl (.inr ⟨by simp [T.at, hcond], rfl, ?_⟩)
        exact (HB3.out.setCell (p := ⟨w.heap.size + 1, 0, none⟩) (by simp) _).setCell (p := ⟨w.heap.size + 1, 1, none⟩) (by simp) _

      · have hd : decide (z < 0) = false := by simpa using hneg
        have hge : (t.args.length : Int) ≤ z := hcond.resolve_left hneg
        have hd2 : decide ((t.args.length : Int) ≤ z) = true := by simpa using hge
        go_quiet (fail)
        rename_i nq
        generalize hw3 : w2.drewN nq = w3
        have hb3 : Below w2.heap.size w2 w3 := by rw [← hw3]; exact below_drewN (Below.refl _ _) _
        have k3 := (hb3.block (w.heap.size + 1) (by omega)).trans k2
        have r0 : w3.cell? ⟨w.heap.size + 1, 0, none⟩ = some (.int .i64 0) := by simp [World.cell?, k3]
        have r1 : w3.cell? ⟨w.heap.size + 1, 1, none⟩ = some (.slice none 0 0) := by simp [World.cell?, k3]
        have rf0 : w3.frozen? ⟨w.heap.size + 1, 0, none⟩ = false := by simp [World.frozen?, k3]
        have rf1 : w3.frozen? ⟨w.heap.size + 1, 1, none⟩ = false := by simp [World.frozen?, k3]
        have HB3 := Lib.hid (hb2.trans (hb3.mono hb2.size))
        clear hb3 k3 hw3 hb2 k2
        go_wp2
        refine bodyPost_ret (v := .tuple #[tm 0 none 0 0, .bool false]) (by simp [results, Try.results13, go_sem, r0, r1]) rfl (.inr ⟨by simp [T.at, hcond], rfl, ?_⟩)
        exact (HB3.out.setCell (p := ⟨w.heap.size + 1, 0, none⟩) (by simp) _).setCell (p := ⟨w.heap.size + 1, 1, none⟩) (by simp) _

    · obtain ⟨n, rfl⟩ : ∃ n : Nat, z = (n : Int) := ⟨z.toNat, by omega⟩
      have hns : n < t.args.length := by omega
      have hd : decide ((n : Int) < 0) = false := by simp
      have hd2 : decide ((t.args.length : Int) ≤ (n : Int)) = false := by simp; omega
      have hd3 : decide (t.args.length ≤ n) = false := by simp; omega
      go_quiet (fail)
      rename_i nq
      generalize hw3 : w2.drewN nq = w3
      have hb3 : Below w2.heap.size w2 w3 := by rw [← hw3]; exact below_drewN (Below.refl _ _) _
      have hb13 := hb2.trans (hb3.mono hb2.size)
      have k3 := (hb3.block (w.heap.size + 1) (by omega)).trans k2
      have hs3 : w.heap.size + 2 ≤ w3.heap.size := by have := hb3.size; omega
      obtain ⟨b', o', x, a2, c2, rfl, hbn', hx, hxw, hc1, hc2, hA2⟩ := (HA.out.below (hb13.mono hn)).elem (i := n) hns
      have kb1 := (hb3.cell (p := ⟨w.heap.size, 1, none⟩) (by simp; omega)).trans k1
      have kz := (hb3.cell (p := ⟨b, o, none⟩) (by simp; omega)).trans hcz
      have KP := Lib.hid (show ∀ W, Below (w.heap.size + 1) w3 W → W.cell? ⟨w.heap.size, 1, none⟩ = some (.slice (some ⟨b', o', none⟩) t.args.length c) ∧ W.cell? ⟨b, o, none⟩ = some (.int .i64 (n : Int)) ∧ W.cell? ⟨b', o' + n * 2, none⟩ = some (.int .i64 x.head) ∧ W.cell? ⟨b', o' + n * 2 + 1, none⟩ = some (.slice a2 x.args.length c2) ∧ Below (w.heap.size + 1) w3 W from fun W hW => ⟨(hW.cell (p := ⟨w.heap.size, 1, none⟩) (by simp)).trans kb1, (hW.cell (p := ⟨b, o, none⟩) (by simp; omega)).trans kz, (hW.cell (p := ⟨b', o' + n * 2, none⟩) (by simp; omega)).trans hc1, (hW.cell (p := ⟨b', o' + n * 2 + 1, none⟩) (by simp; omega)).trans hc2, hW⟩)
      have HX := Lib.hid hx
      have HXW := Lib.hid hxw
      have HA2 := Lib.hid hA2
      have hn0 : (0 : Int) ≤ (n : Int) := Int.natCast_nonneg _
      have hn1 : (n : Int) < (t.args.length : Int) := by omega
      have hs1 : (1 : Int) ≤ (p.length : Int) + 1 := by omega
      have hs2 : (p.length : Int) + 1 ≤ (cp : Int) := by simp at hp1; omega
      clear hx hxw hA2 hw3 hb2 hb3 k1 k2 hcz E
      by_cases hcp : cp = 1
      · subst hcp
        have hT := HT.out
        simp only [if_true, Nat.sub_self] at hT
        have hcc : Calls Try.prog 13 #[tm x.head a2 x.args.length c2, .slice (some ⟨b, o, none⟩) p.length (0)] w3.drew (AtU n₀ x p w3.drew) := (IH.out x n₀ a2 c2 (some ⟨b, o, none⟩) (0) w3.drew (by show n₀ ≤ w3.heap.size; omega) HXW.out (HA2.out.below (Below.refl _ _).drew) ((hT.below (hb13.mono hn)).below (Below.refl _ _).drew)).mono (fun e w' h => atU_of h)
        have CC := Lib.hid hcc
        clear hcc hT
        go_wp2
        go_region_held3 (fun w' => w'.cell? ⟨w.heap.size, 1, none⟩ = some (.slice (some ⟨b', o', none⟩) t.args.length c) ∧ w'.cell? ⟨b, o, none⟩ = some (.int .i64 (n : Int)) ∧ w'.cell? ⟨b', o' + n * 2, none⟩ = some (.int .i64 x.head) ∧ w'.cell? ⟨b', o' + n * 2 + 1, none⟩ = some (.slice a2 x.args.length c2) ∧ Below (w.heap.size + 1) w3 w')
          (first
            | exact KP.out _ (Below.refl _ _)
            | exact KP.out _ (Below.refl _ _).drew
            | exact KP.out _ (Below.setCell (p := ⟨_, 1, none⟩) (Below.setCell (p := ⟨_, 0, none⟩) hB4 (Nat.le_refl _) _) (Nat.le_refl _) _)
            | exact KP.out _ hB4)
          (first
            | (go_at_call 13; refine CC.out.mono ?_; rintro e w4 ⟨hd4, av, nv, cv, bv, rfl, hb4, hend⟩; have hB4w : Below w3.heap.size w3 w4 := (Below.refl _ w3).drew.trans hb4; have hB4 := hB4w.mono (show w.heap.size + 1 ≤ w3.heap.size by omega); have k4 := (hB4w.block (w.heap.size + 1) (by omega)).trans k3; have q0 : w4.cell? ⟨w.heap.size + 1, 0, none⟩ = some (.int .i64 0) := (by simp [World.cell?, k4]); have q1 : w4.cell? ⟨w.heap.size + 1, 1, none⟩ = some (.slice none 0 0) := (by simp [World.cell?, k4]); have qf0 : w4.frozen? ⟨w.heap.size + 1, 0, none⟩ = false := (by simp [World.frozen?, k4]); have qf1 : w4.frozen? ⟨w.heap.size + 1, 1, none⟩ = false := (by simp [World.frozen?, k4])))
        have HEND := Lib.hid hend
        have HB4 := Lib.hid (hb13.trans (hB4w.mono (by omega)))
        clear hend hB4w hB4 k4 hb4
        go_wp2
        refine bodyPost_ret (v := .tuple #[tm hd4 av nv cv, .bool bv]) (by simp [results, Try.results13, go_sem, q0, q1]) rfl ?_
        have hbf := (HB4.out.setCell (p := ⟨w.heap.size + 1, 0, none⟩) (by simp) (.int .i64 hd4)).setCell (p := ⟨w.heap.size + 1, 1, none⟩) (by simp) (.slice av nv cv)
        have hatn : t.at ((n : Int) :: p) = x.at p := by simp only [T.at, Int.toNat_natCast, HX.out, Option.bind_some]; rw [if_neg (by omega)]
        rcases HEND.out with ⟨s, h1, rfl, rfl, rfl, h2, h3⟩ | ⟨h1, rfl, rfl, rfl, rfl, rfl⟩
        · exact .inl ⟨s, av, cv, hatn.trans h1, rfl, h2, h3.below (((Below.refl n₀ w4).setCell (p := ⟨w.heap.size + 1, 0, none⟩) (by simp; omega) _).setCell (p := ⟨w.heap.size + 1, 1, none⟩) (by simp; omega) _), hbf⟩
        · exact .inr ⟨hatn.trans h1, rfl, hbf⟩
      · have hT := HT.out
        rw [if_neg hcp] at hT
        have hcc : Calls Try.prog 13 #[tm x.head a2 x.args.length c2, .slice (some ⟨b, o + 1, none⟩) p.length (cp - 1)] w3.drew (AtU n₀ x p w3.drew) := (IH.out x n₀ a2 c2 (some ⟨b, o + 1, none⟩) (cp - 1) w3.drew (by show n₀ ≤ w3.heap.size; omega) HXW.out (HA2.out.below (Below.refl _ _).drew) ((hT.below (hb13.mono hn)).below (Below.refl _ _).drew)).mono (fun e w' h => atU_of h)
        have CC := Lib.hid hcc
        have hcp1 : ((cp : Int) == 1) = false := by simp; omega
        have hcp2 : (cp == 1) = false := by simpa using hcp
        clear hcc hT
        go_wp2
        go_region_held3 (fun w' => w'.cell? ⟨w.heap.size, 1, none⟩ = some (.slice (some ⟨b', o', none⟩) t.args.length c) ∧ w'.cell? ⟨b, o, none⟩ = some (.int .i64 (n : Int)) ∧ w'.cell? ⟨b', o' + n * 2, none⟩ = some (.int .i64 x.head) ∧ w'.cell? ⟨b', o' + n * 2 + 1, none⟩ = some (.slice a2 x.args.length c2) ∧ Below (w.heap.size + 1) w3 w')
          (first
            | exact KP.out _ (Below.refl _ _)
            | exact KP.out _ (Below.refl _ _).drew
            | exact KP.out _ (Below.setCell (p := ⟨_, 1, none⟩) (Below.setCell (p := ⟨_, 0, none⟩) hB4 (Nat.le_refl _) _) (Nat.le_refl _) _)
            | exact KP.out _ hB4)
          (first
            | (go_at_call 13; refine CC.out.mono ?_; rintro e w4 ⟨hd4, av, nv, cv, bv, rfl, hb4, hend⟩; have hB4w : Below w3.heap.size w3 w4 := (Below.refl _ w3).drew.trans hb4; have hB4 := hB4w.mono (show w.heap.size + 1 ≤ w3.heap.size by omega); have k4 := (hB4w.block (w.heap.size + 1) (by omega)).trans k3; have q0 : w4.cell? ⟨w.heap.size + 1, 0, none⟩ = some (.int .i64 0) := (by simp [World.cell?, k4]); have q1 : w4.cell? ⟨w.heap.size + 1, 1, none⟩ = some (.slice none 0 0) := (by simp [World.cell?, k4]); have qf0 : w4.frozen? ⟨w.heap.size + 1, 0, none⟩ = false := (by simp [World.frozen?, k4]); have qf1 : w4.frozen? ⟨w.heap.size + 1, 1, none⟩ = false := (by simp [World.frozen?, k4])))
        have HEND := Lib.hid hend
        have HB4 := Lib.hid (hb13.trans (hB4w.mono (by omega)))
        clear hend hB4w hB4 k4 hb4
        go_wp2
        refine bodyPost_ret (v := .tuple #[tm hd4 av nv cv, .bool bv]) (by simp [results, Try.results13, go_sem, q0, q1]) rfl ?_
        have hbf := (HB4.out.setCell (p := ⟨w.heap.size + 1, 0, none⟩) (by simp) (.int .i64 hd4)).setCell (p := ⟨w.heap.size + 1, 1, none⟩) (by simp) (.slice av nv cv)
        have hatn : t.at ((n : Int) :: p) = x.at p := by simp only [T.at, Int.toNat_natCast, HX.out, Option.bind_some]; rw [if_neg (by omega)]
        rcases HEND.out with ⟨s, h1, rfl, rfl, rfl, h2, h3⟩ | ⟨h1, rfl, rfl, rfl, rfl, rfl⟩
        · exact .inl ⟨s, av, cv, hatn.trans h1, rfl, h2, h3.below (((Below.refl n₀ w4).setCell (p := ⟨w.heap.size + 1, 0, none⟩) (by simp; omega) _).setCell (p := ⟨w.heap.size + 1, 1, none⟩) (by simp; omega) _), hbf⟩
        · exact .inr ⟨hatn.trans h1, rfl, hbf⟩

end Go.Proofs.Ytdigccbffphilaa
