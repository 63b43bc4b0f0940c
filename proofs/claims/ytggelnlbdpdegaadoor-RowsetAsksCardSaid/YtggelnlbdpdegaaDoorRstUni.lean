/- Same and Count of formed sets of n rows. -/
import Derived.Test.YtggelnlbdpdegaaDoorRstSame
namespace Go.Proofs.YtggelnlbdpdegaaDoor
open Go.RowKit
set_option maxRecDepth 100000

theorem sameB {n : Nat} (hn : n ≤ 4096) (x y : List Bool) (hx : x.length = n) (hy : y.length = n) (A1 A2 : Option Addr) (c1 c2 : Nat) (W : World) (h1 : Nums W W.heap.size A1 (Rst.pack x)) (h2 : Nums W W.heap.size A2 (Rst.pack y)) (he : x = y) :
    Calls Tryd.prog 16 #[.agg #[.int .i64 (n : Int), .slice A1 (Rst.need n) c1], .agg #[.int .i64 (n : Int), .slice A2 (Rst.need n) c2]] W fun e w' => e = .returned (.bool true) ∧ Below W.heap.size W w' := by
  have hk := need_le hn
  have h := same_any (n : Int) (n : Int) A1 A2 (Rst.need n) (Rst.need n) c1 c2 W.heap.size W.heap.size (Rst.pack x) (Rst.pack y) W (by rw [Rst.pack_length, hx]) (by rw [Rst.pack_length, hy]) (by omega) (by omega) h1 h2 (Nat.le_refl _) (Nat.le_refl _)
  rw [decide_eq_true ⟨rfl, by rw [he]⟩] at h
  exact h
/-- the rows of a list of bits -/
def ones (x : List Bool) : Nat := x.countP id
theorem count_ones (x : List Bool) : Rst.count (Rst.pack x) (Rst.pack x).length = ones x := by
  unfold Rst.count ones
  have e1 : List.range (64 * (Rst.pack x).length) = List.range x.length ++ (List.range (64 * (Rst.pack x).length - x.length)).map (x.length + ·) := by
    rw [← List.range_add]
    congr 1
    rw [Rst.pack_length]; unfold Rst.need; omega
  have e2 : (List.map (x.length + ·) (List.range (64 * (Rst.pack x).length - x.length))).countP (Rst.bit (Rst.pack x)) = 0 := by
    rw [List.countP_eq_zero]
    intro i hi
    obtain ⟨j, _, rfl⟩ := List.mem_map.1 hi
    rw [Rst.bit_pack, List.getD_eq_getElem?_getD, List.getElem?_eq_none (by omega)]
    simp
  rw [e1, List.countP_append, e2, Nat.add_zero]
  conv => rhs; rw [← Rst.bitsOf_pack x]
  unfold Rst.bitsOf
  rw [List.countP_map]
  rfl
theorem ones_le (x : List Bool) : ones x ≤ x.length := List.countP_le_length
theorem countB {n : Nat} (hn : n ≤ 4096) (x : List Bool) (hx : x.length = n) (A1 : Option Addr) (c1 : Nat) (W : World) (h1 : Nums W W.heap.size A1 (Rst.pack x)) :
    Calls Tryd.prog 12 #[.agg #[.int .i64 (n : Int), .slice A1 (Rst.need n) c1]] W fun e w' => e = .returned (.int .i64 (ones x : Int)) ∧ Below W.heap.size W w' := by
  have hk := need_le hn
  have h := count_any (n : Int) A1 (Rst.need n) c1 W.heap.size (Rst.pack x) W (by rw [Rst.pack_length, hx]) (by omega) h1 (Nat.le_refl _)
  have hf1 : Rst.formed (n : Int) (Rst.pack x) = true := by rw [← hx]; exact Rst.formed_pack (by omega)
  unfold countRow at h
  rw [if_pos hf1, count_ones] at h
  exact h
theorem ones_and_or : ∀ {x y : List Bool}, x.length = y.length → ones (List.zipWith (fun a b => a && b) x y) + ones (List.zipWith (fun a b => a || b) x y) = ones x + ones y
  | [], [], _ => rfl
  | a :: x, b :: y, h => by
    have ih := ones_and_or (x := x) (y := y) (by simpa using h)
    unfold ones at *
    simp only [List.zipWith_cons_cons, List.countP_cons]
    cases a <;> cases b <;> simp <;> omega
  | [], _ :: _, h => by simp at h
  | _ :: _, [], h => by simp at h
theorem zip_len {f : Bool → Bool → Bool} {x y : List Bool} {n : Nat} (hx : x.length = n) (hy : y.length = n) : (List.zipWith f x y).length = n := by rw [List.length_zipWith, hx, hy, Nat.min_self]
theorem zip_whole {x y : List Bool} (h : x.length = y.length) : List.zipWith (fun a b => a || b) (List.zipWith (fun a b => a && !b) x y) (List.zipWith (fun a b => a && b) x y) = x := by
  apply List.ext_getElem (by simp [h])
  intro i h1 h2
  simp only [List.getElem_zipWith]
  generalize x[i] = a
  generalize y[i]'(by omega) = b
  cases a <;> cases b <;> rfl
theorem zip_back {x y : List Bool} : List.zipWith (fun a b => a || b) y x = List.zipWith (fun a b => a || b) x y := by
  apply List.ext_getElem (by simp [Nat.min_comm])
  intro i h1 h2
  simp only [List.getElem_zipWith, Bool.or_comm]
theorem zip_part {x y z : List Bool} (h : x.length = y.length) (hz : y.length = z.length) : List.zipWith (fun a b => a && b) (List.zipWith (fun a b => a || b) x y) z = List.zipWith (fun a b => a || b) (List.zipWith (fun a b => a && b) x z) (List.zipWith (fun a b => a && b) y z) := by
  apply List.ext_getElem (by simp [h, hz])
  intro i h1 h2
  simp only [List.getElem_zipWith]
  rw [Bool.and_or_distrib_right]
end Go.Proofs.YtggelnlbdpdegaaDoor
