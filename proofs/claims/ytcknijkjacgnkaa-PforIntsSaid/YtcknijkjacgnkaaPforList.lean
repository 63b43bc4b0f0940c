/- Lists of blocks, on lists: plain. -/
import Derived.Test.YtcknijkjacgnkaaPfor
namespace Go.Proofs.Ytcknijkjacgnkaa.Pfor

/-- the blocks of a list, one behind the other -/
def blocks (l : List UInt64) : List UInt8 := if _h : l = [] then [] else block (l.take 32) ++ blocks (l.drop 32)
termination_by l.length
decreasing_by
  have : 0 < l.length := List.length_pos_iff.2 _h
  simp only [List.length_drop]
  omega
theorem blocks_nil : blocks [] = [] := by rw [blocks]; simp
theorem blocks_cons {l : List UInt64} (h : l ≠ []) : blocks l = block (l.take 32) ++ blocks (l.drop 32) := by rw [blocks, dif_neg h]
/-- a list's bytes -/
def list (l : List UInt64) : List UInt8 := Num.num l.length ++ blocks l
theorem take32_good {l : List UInt64} (h : l ≠ []) : Good (l.take 32) := by
  have : 0 < l.length := List.length_pos_iff.2 h
  unfold Good
  rw [List.length_take]
  omega
theorem blocks_length_le (l : List UInt64) : (blocks l).length ≤ 268 * l.length := by
  induction hn : l.length using Nat.strongRecOn generalizing l with
  | ind n ih =>
    by_cases h : l = []
    · subst h; rw [blocks_nil]; simp
    · have h0 : 0 < l.length := List.length_pos_iff.2 h
      have h1 := block_length_le (l := l.take 32) (by rw [List.length_take]; omega)
      have h2 := ih (l.drop 32).length (by rw [List.length_drop]; omega) (l.drop 32) rfl
      rw [List.length_drop] at h2
      rw [blocks_cons h, List.length_append]
      omega
theorem list_length_le (l : List UInt64) (hl : l.length < 18446744073709551616) : (list l).length ≤ 9 + 268 * l.length := by
  have h1 := blocks_length_le l
  have h2 := Num.size_le9 hl
  rw [list, List.length_append, Num.num_length]
  omega

/-- The blocks of n numbers that bytes have from at_ on: numbers, where one stands then, error. -/
noncomputable def takeBlocks (b : List UInt8) : Nat → List UInt64 → Nat → List UInt64 × Nat × Nat
  | 0, acc, at_ => (acc, at_, 0)
  | n + 1, acc, at_ => if (takeBlock (b.drop at_)).2.2 = 0 ∧ (takeBlock (b.drop at_)).1.length = min (n + 1) 32 then
      takeBlocks b (n + 1 - 32) (acc ++ (takeBlock (b.drop at_)).1) (at_ + (takeBlock (b.drop at_)).2.1) else ([], 0, 2)
termination_by n => n
decreasing_by omega
theorem takeBlocks_zero (b : List UInt8) (acc : List UInt64) (at_ : Nat) : takeBlocks b 0 acc at_ = (acc, at_, 0) := by rw [takeBlocks]
theorem takeBlocks_pos (b : List UInt8) {n : Nat} (hn : 0 < n) (acc : List UInt64) (at_ : Nat) : takeBlocks b n acc at_ = if (takeBlock (b.drop at_)).2.2 = 0 ∧ (takeBlock (b.drop at_)).1.length = min n 32 then
      takeBlocks b (n - 32) (acc ++ (takeBlock (b.drop at_)).1) (at_ + (takeBlock (b.drop at_)).2.1) else ([], 0, 2) := by
  obtain ⟨m, rfl⟩ : ∃ m, n = m + 1 := ⟨n - 1, by omega⟩
  rw [takeBlocks]
/-- the list that bytes begin with, of at most so many numbers -/
noncomputable def takeList (b : List UInt8) (most : Int) : List UInt64 × Nat × Nat :=
  if most < 0 then ([], 0, 1) else
    if (Num.take b).2.2 ≠ 0 then ([], 0, 2) else
      if most < (Num.take b).1 then ([], 0, 5) else takeBlocks b (Num.take b).1 [] (Num.take b).2.1

theorem takeBlocks_blocks (b : List UInt8) (l : List UInt64) : ∀ (acc : List UInt64) (at_ : Nat) (t : List UInt8), b.drop at_ = blocks l ++ t → takeBlocks b l.length acc at_ = (acc ++ l, at_ + (blocks l).length, 0) := by
  induction hn : l.length using Nat.strongRecOn generalizing l with
  | ind n ih =>
    intro acc at_ t hd
    by_cases h : l = []
    · subst h
      subst hn
      rw [List.length_nil, takeBlocks_zero, blocks_nil]
      simp
    · have h0 : 0 < l.length := List.length_pos_iff.2 h
      have hg := take32_good h
      rw [blocks_cons h, List.append_assoc] at hd
      have ht : takeBlock (b.drop at_) = (l.take 32, (block (l.take 32)).length, 0) := by rw [hd]; exact takeBlock_block hg _
      have hl32 : (l.take 32).length = min n 32 := by rw [List.length_take]; omega
      rw [takeBlocks_pos b (by omega), ht, if_pos ⟨rfl, hl32⟩]
      have hd2 : b.drop (at_ + (block (l.take 32)).length) = blocks (l.drop 32) ++ t := by
        rw [← List.drop_drop, hd, List.drop_left' rfl]
      have := ih (l.drop 32).length (by rw [List.length_drop]; omega) (l.drop 32) rfl (acc ++ l.take 32) _ t hd2
      rw [List.length_drop, hn] at this
      rw [this, List.append_assoc, List.take_append_drop, blocks_cons h, List.length_append, Nat.add_assoc]
/-- what is laid is taken, whatever stands behind -/
theorem takeList_list (l : List UInt64) (t : List UInt8) (hl : l.length < 18446744073709551616) : takeList (list l ++ t) l.length = (l, (list l).length, 0) := by
  unfold takeList
  rw [if_neg (by omega), list, List.append_assoc, Num.take_num hl]
  simp only [ne_eq, not_true, if_false]
  rw [if_neg (by omega), takeBlocks_blocks _ l [] _ t (by rw [List.drop_left' (Num.num_length _)]), List.nil_append, List.length_append, Num.num_length]
end Go.Proofs.Ytcknijkjacgnkaa.Pfor
