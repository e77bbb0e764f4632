/- The depth of terms, and small lemmas for loops over the iterator of subterms. -/
import Derived.Test.YtfkaecjdncjggaaSub
namespace Go.Proofs.Ytfkaecjdncjggaa
set_option linter.unusedVariables false
set_option linter.unusedSimpArgs false
open Go.RowKit Go.Shelf
attribute [local go_sem] Oper.semAt_some

theorem fold2 (t : Array Value) (p q : Tmp) (u v : Value) : (#[p, q].zip #[u, v]).foldl (fun t (x : Tmp × Value) => t.setIfInBounds x.1 x.2) t = (t.setIfInBounds p u).setIfInBounds q v := by simp

mutual
def T.depth : T → Nat
  | .node _ ts => T.depths ts + 1
def T.depths : List T → Nat
  | [] => 0
  | t :: ts => max t.depth (T.depths ts)
end
theorem T.depth_pos (t : T) : 1 ≤ t.depth := by cases t; simp [T.depth]
def mx (m : Nat) (pre : List (Nat × T)) : Nat := pre.foldl (fun m x => max m x.1) m
mutual
theorem mx_subs (m l : Nat) (hl : 1 ≤ l) (hm : l ≤ m + 1) : (t : T) → mx m (T.subs l t) = max m (l + t.depth - 1)
  | .node h ts => by
    have h1 := mx_subss (max m l) (l + 1) (by omega) (by omega) ts
    simp only [mx, T.subs, List.foldl_cons, T.depth] at h1 ⊢
    rw [h1]; omega
theorem mx_subss (m l : Nat) (hl : 1 ≤ l) (hm : l ≤ m + 1) : (ts : List T) → mx m (T.subss l ts) = max m (l + T.depths ts - 1)
  | [] => by simp [mx, T.subss, T.depths]; omega
  | t :: ts => by
    have h1 := mx_subs m l hl hm t
    have h2 := mx_subss (max m (l + t.depth - 1)) l hl (by omega) ts
    simp only [mx, T.subss, List.foldl_append, T.depths] at h1 h2 ⊢
    rw [h1, h2]; omega
end
theorem mx_all (t : T) : mx 0 (T.subs 1 t) = t.depth := by rw [mx_subs 0 1 (by omega) (by omega)]; have := t.depth_pos; omega
theorem mx_snoc (m : Nat) (pre : List (Nat × T)) (x : Nat × T) : mx m (pre ++ [x]) = max (mx m pre) x.1 := by simp [mx]

end Go.Proofs.Ytfkaecjdncjggaa
