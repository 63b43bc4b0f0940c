/- What two sets make, word by word: plain; the box of a made set filled. -/
import Derived.Test.YtggelnlbdpdegaaDoorRBox
namespace Go.Proofs.YtggelnlbdpdegaaDoor
open Go.RowKit
set_option maxRecDepth 100000

/-- a set made of two, word by word -/
def joinR (op : Nat → Nat → Nat) (N : Int) (a : List UInt64) (M : Int) (b : List UInt64) : (Int × List UInt64) × Nat :=
  if Rst.formed N a = true ∧ Rst.formed M b = true ∧ N = M then ((N, Rst.joinW op a b), 0) else ((0, []), 1)
theorem joinR_no {op : Nat → Nat → Nat} {N M : Int} {a b : List UInt64} (h : ¬ (Rst.formed N a = true ∧ Rst.formed M b = true ∧ N = M)) : joinR op N a M b = ((0, []), 1) := by unfold joinR; rw [if_neg h]
theorem joinR_yes {op : Nat → Nat → Nat} {N M : Int} {a b : List UInt64} (h1 : Rst.formed N a = true) (h2 : Rst.formed M b = true) (h3 : N = M) : joinR op N a M b = ((N, Rst.joinW op a b), 0) := by unfold joinR; rw [if_pos ⟨h1, h2, h3⟩]
theorem fillU_set {α : Type} {l : List α} {n k : Nat} (z : α) (hl : l.length = n) (hk : k < n) : (l.take k ++ List.replicate (n - k) z).set k (l[k]'(by omega)) = l.take (k + 1) ++ List.replicate (n - (k + 1)) z := by
  have hlt : (l.take k).length = k := by simp; omega
  obtain ⟨m, hm⟩ : ∃ m, n - k = m + 1 := ⟨n - k - 1, by omega⟩
  have hm2 : n - (k + 1) = m := by omega
  rw [hm, hm2, List.set_append_right _ _ (by omega), hlt, Nat.sub_self, List.replicate_succ, List.set_cons_zero, List.take_succ_eq_append_getElem (show k < l.length by omega), List.append_assoc, List.singleton_append]
theorem joinW_get {op : Nat → Nat → Nat} {a b : List UInt64} {k : Nat} (ha : k < a.length) (hb : k < b.length) : ∃ h : k < (Rst.joinW op a b).length, (Rst.joinW op a b)[k] = UInt64.ofNat (op a[k].toNat b[k].toNat) := by
  refine ⟨by simp [Rst.joinW]; omega, ?_⟩
  simp [Rst.joinW]
theorem joinW_length {op : Nat → Nat → Nat} {a b : List UInt64} {n : Nat} (ha : a.length = n) (hb : b.length = n) : (Rst.joinW op a b).length = n := by simp [Rst.joinW, ha, hb]
end Go.Proofs.YtggelnlbdpdegaaDoor
