/- The pieces of samples, and how often each comes: plain. -/
import Derived.Test.YtmcioglidgbibaaSym
namespace Go.Proofs.Ytmcioglidgbibaa.Sym

/-- the first k pieces that begin at place i -/
def posK (s : List UInt8) (i k : Nat) : List (List UInt8) := (List.range k).map fun j => (s.drop i).take (j + 2)
/-- how many begin there -/
def nAt (s : List UInt8) (i : Nat) : Nat := min 8 (s.length - i) - 1
/-- the pieces that begin ahead of place i -/
def occTo (s : List UInt8) : Nat → List (List UInt8)
  | 0 => []
  | i + 1 => occTo s i ++ posK s i (nAt s i)
/-- all pieces of a text -/
def occ (s : List UInt8) : List (List UInt8) := occTo s s.length
/-- how many letters texts have -/
def tot (l : List (List UInt8)) : Nat := (l.map List.length).sum
/-- the pieces of samples, so many letters of them -/
def pieces : List (List UInt8) → Nat → List (List UInt8)
  | [], _ => []
  | s :: r, left => occ (s.take left) ++ pieces r (left - s.length)

theorem posK_zero (s : List UInt8) (i : Nat) : posK s i 0 = [] := rfl
theorem posK_step (s : List UInt8) (i k : Nat) : posK s i (k + 1) = posK s i k ++ [(s.drop i).take (k + 2)] := by
  unfold posK
  rw [List.range_succ, List.map_append]
  rfl
theorem occTo_step (s : List UInt8) (i : Nat) : occTo s (i + 1) = occTo s i ++ posK s i (nAt s i) := rfl
theorem occ_nil : occ [] = [] := rfl
theorem pieces_zero : ∀ l : List (List UInt8), pieces l 0 = []
  | [] => rfl
  | s :: r => by rw [pieces, List.take_zero, occ_nil, Nat.zero_sub, pieces_zero r]; rfl
theorem tot_append (a b : List (List UInt8)) : tot (a ++ b) = tot a + tot b := by simp [tot]
theorem pieces_append : ∀ (a b : List (List UInt8)) (left : Nat), pieces (a ++ b) left = pieces a left ++ pieces b (left - tot a)
  | [], b, left => by simp [pieces, tot]
  | s :: a, b, left => by
    have e : left - s.length - tot a = left - tot (s :: a) := by
      have : tot (s :: a) = s.length + tot a := by simp [tot]
      omega
    rw [List.cons_append, pieces, pieces_append a b, pieces, List.append_assoc, e]
theorem pieces_snoc (a : List (List UInt8)) (s : List UInt8) (left : Nat) : pieces (a ++ [s]) left = pieces a left ++ occ (s.take (left - tot a)) := by
  rw [pieces_append, pieces, pieces, List.append_nil]
theorem posK_len {s : List UInt8} {i k : Nat} (hk : k ≤ nAt s i) : ∀ p ∈ posK s i k, 2 ≤ p.length ∧ p.length ≤ 8 := by
  intro p hp
  obtain ⟨j, hj, rfl⟩ := List.mem_map.1 hp
  have hj' := List.mem_range.1 hj
  unfold nAt at hk
  rw [List.length_take, List.length_drop]
  omega
theorem posK_length (s : List UInt8) (i k : Nat) : (posK s i k).length = k := by simp [posK]
theorem nAt_le (s : List UInt8) (i : Nat) : nAt s i ≤ 7 := by unfold nAt; omega
theorem occTo_len (s : List UInt8) : ∀ i, ∀ p ∈ occTo s i, 2 ≤ p.length ∧ p.length ≤ 8
  | 0, p, hp => by cases hp
  | i + 1, p, hp => by
    rw [occTo_step] at hp
    rcases List.mem_append.1 hp with h | h
    · exact occTo_len s i p h
    · exact posK_len (Nat.le_refl _) p h
theorem occTo_length (s : List UInt8) : ∀ i, (occTo s i).length ≤ 7 * i
  | 0 => by simp [occTo]
  | i + 1 => by
    have := occTo_length s i
    have := nAt_le s i
    rw [occTo_step, List.length_append, posK_length]
    omega
theorem pieces_len : ∀ (l : List (List UInt8)) (left : Nat), ∀ p ∈ pieces l left, 2 ≤ p.length ∧ p.length ≤ 8
  | [], _, p, hp => by cases hp
  | s :: r, left, p, hp => by
    rw [pieces] at hp
    rcases List.mem_append.1 hp with h | h
    · exact occTo_len _ _ p h
    · exact pieces_len r _ p h
theorem pieces_length : ∀ (l : List (List UInt8)) (left : Nat), (pieces l left).length ≤ 7 * left
  | [], _ => by simp [pieces]
  | s :: r, left => by
    have h1 := pieces_length r (left - s.length)
    have h2 := occTo_length (s.take left) (s.take left).length
    rw [pieces, List.length_append]
    unfold occ
    rw [List.length_take] at h2
    rw [List.length_take]
    omega

/-- what a map tells that counts the texts of a list -/
def cnt (P : List (List UInt8)) (s : List UInt8) : Option Int := if s ∈ P then some (P.count s : Int) else none
theorem cnt_nil : cnt [] = fun _ => none := by funext s; simp [cnt]
theorem cnt_get (P : List (List UInt8)) (s : List UInt8) : (cnt P s).getD 0 = (P.count s : Int) := by
  unfold cnt
  by_cases h : s ∈ P
  · rw [if_pos h]; rfl
  · rw [if_neg h, List.count_eq_zero_of_not_mem h]; rfl
theorem cnt_step (P : List (List UInt8)) (p : List UInt8) : (fun s => if s = p then some ((P.count p : Int) + 1) else cnt P s) = cnt (P ++ [p]) := by
  funext s
  unfold cnt
  by_cases h : s = p
  · subst h
    rw [if_pos rfl, if_pos (List.mem_append.2 (.inr (List.mem_singleton.2 rfl))), List.count_append]
    simp
  · rw [if_neg h]
    have hm : s ∈ P ++ [p] ↔ s ∈ P := ⟨fun hm => (List.mem_append.1 hm).resolve_right (fun e => h (List.mem_singleton.1 e)), fun hm => List.mem_append.2 (.inl hm)⟩
    by_cases hs : s ∈ P
    · rw [if_pos hs, if_pos (hm.2 hs), List.count_append]
      have : List.count s [p] = 0 := List.count_eq_zero_of_not_mem (fun e => h (List.mem_singleton.1 e))
      rw [this]
      rfl
    · rw [if_neg hs, if_neg (fun h => hs (hm.1 h))]
end Go.Proofs.Ytmcioglidgbibaa.Sym
