/- Rows and granules that are marked, one behind the other: plain lists, no program. -/
import Derived.Test.YtggelnlbdpdegaaDoorRstRows
namespace Go.Proofs.YtggelnlbdpdegaaDoor.Rst

/-- the rows that are listed -/
def ofL (n : Nat) (l : List Int) : List Bool := (List.range n).map (fun (i : Nat) => decide ((i : Int) ∈ l))
theorem ofL_length (n : Nat) (l : List Int) : (ofL n l).length = n := by simp [ofL]
theorem ofL_nil (n : Nat) : ofL n [] = List.replicate n false := by
  apply List.ext_getElem (by simp [ofL])
  intro i h1 h2
  simp [ofL]
theorem ofL_snoc {n r : Nat} (l : List Int) (_hr : r < n) : (ofL n l).set r true = ofL n (l ++ [(r : Int)]) := by
  apply List.ext_getElem (by simp [ofL])
  intro i h1 h2
  rw [List.getElem_set]
  simp only [ofL, List.getElem_map, List.getElem_range, List.mem_append, List.mem_singleton]
  by_cases h : r = i
  · subst h; simp
  · rw [if_neg h]
    have : ¬ (i : Int) = (r : Int) := by omega
    simp [this]
/-- is a row one of n? -/
def okRow (n : Int) (r : Int) : Bool := decide (0 ≤ r) && decide (r < n)
/-- rowset.Of -/
def ofR (N : Int) (l : List Int) : (Int × List UInt64) × Nat :=
  if 0 ≤ N ∧ N ≤ 4096 then (if l.all (okRow N) = true then ((N, pack (ofL N.toNat l)), 0) else ((0, []), 1)) else ((0, []), 1)
theorem ofR_ok {n : Nat} {l : List Int} (hn : n ≤ 4096) (h : l.all (okRow n) = true) : ofR (n : Int) l = (((n : Int), pack (ofL n l)), 0) := by
  unfold ofR
  rw [if_pos (by omega), if_pos h, Int.toNat_natCast]
theorem ofR_bad {n : Nat} {l : List Int} (h : ¬ l.all (okRow n) = true) : ofR (n : Int) l = ((0, []), 1) := by
  unfold ofR
  rw [if_neg h]
  split <;> rfl
theorem ofR_range {N : Int} {l : List Int} (h : ¬ (0 ≤ N ∧ N ≤ 4096)) : ofR N l = ((0, []), 1) := by unfold ofR; rw [if_neg h]
theorem all_bad {α : Type} {p : α → Bool} {l : List α} {k : Nat} (hk : k < l.length) (h : p l[k] = false) : ¬ l.all p = true := by
  intro ha
  rw [List.all_eq_true] at ha
  rw [ha _ (List.getElem_mem hk)] at h
  cases h
theorem take_all {α : Type} {p : α → Bool} {l : List α} {k : Nat} (hk : k < l.length) (ht : (l.take k).all p = true) (h : p l[k] = true) : (l.take (k + 1)).all p = true := by
  rw [List.take_succ_eq_append_getElem hk, List.all_append, ht]
  simp [h]

/-- granules ahead, and j rows of another one -/
def part (n : Nat) (gs : List Int) (g j : Nat) : List Bool := (List.range n).map (fun i => decide (((i / 16 : Nat) : Int) ∈ gs) || (decide (i / 16 = g) && decide (i % 16 < j)))
theorem part_length (n : Nat) (gs : List Int) (g j : Nat) : (part n gs g j).length = n := by simp [part]
theorem part_zero (n : Nat) (gs : List Int) (g : Nat) : part n gs g 0 = withinL n gs := by
  apply List.ext_getElem (by simp [part, withinL])
  intro i h1 h2
  simp [part, withinL]
theorem part_succ {n g j : Nat} (gs : List Int) (hj : j < 16) : (part n gs g j).set (16 * g + j) true = part n gs g (j + 1) := by
  apply List.ext_getElem (by simp [part])
  intro i h1 h2
  rw [List.getElem_set]
  simp only [part, List.getElem_map, List.getElem_range]
  by_cases h : 16 * g + j = i
  · subst h
    have e1 : (16 * g + j) / 16 = g := by omega
    have e2 : decide ((16 * g + j) % 16 < j + 1) = true := decide_eq_true (by omega)
    rw [if_pos rfl, e1, e2, decide_eq_true rfl, Bool.true_and, Bool.or_true]
  · rw [if_neg h]
    congr 1
    by_cases h2 : i / 16 = g
    · have : (i % 16 < j + 1) ↔ (i % 16 < j) := by omega
      simp [this]
    · simp [h2]
theorem part_end {n g j : Nat} (gs : List Int) (hj : j = 16 ∨ n ≤ 16 * g + j) : part n gs g j = withinL n (gs ++ [(g : Int)]) := by
  apply List.ext_getElem (by simp [part, withinL])
  intro i h1 h2
  simp only [part_length] at h1
  simp only [part, withinL, List.getElem_map, List.getElem_range, List.mem_append, List.mem_singleton]
  by_cases h : i / 16 = g
  · have h3 : i % 16 < j := by omega
    have h4 : ((i / 16 : Nat) : Int) = (g : Int) := by omega
    simp [h, h3]
  · have h4 : ¬ ((i / 16 : Nat) : Int) = (g : Int) := by omega
    simp only [h, h4, decide_false, Bool.false_and, Bool.or_false, or_false]
theorem withinL_nil (n : Nat) : withinL n [] = List.replicate n false := by
  apply List.ext_getElem (by simp [withinL])
  intro i h1 h2
  simp [withinL]
/-- has n rows a granule? -/
def okGran (n : Int) (g : Int) : Bool := decide (0 ≤ g) && decide (16 * g < n)
/-- rowset.Within -/
def wiR (N : Int) (l : List Int) : (Int × List UInt64) × Nat :=
  if 0 ≤ N ∧ N ≤ 4096 then (if l.all (okGran N) = true then ((N, pack (withinL N.toNat l)), 0) else ((0, []), 1)) else ((0, []), 1)
theorem wiR_ok {n : Nat} {l : List Int} (hn : n ≤ 4096) (h : l.all (okGran n) = true) : wiR (n : Int) l = (((n : Int), pack (withinL n l)), 0) := by
  unfold wiR
  rw [if_pos (by omega), if_pos h, Int.toNat_natCast]
theorem wiR_bad {n : Nat} {l : List Int} (h : ¬ l.all (okGran n) = true) : wiR (n : Int) l = ((0, []), 1) := by
  unfold wiR
  rw [if_neg h]
  split <;> rfl
theorem wiR_range {N : Int} {l : List Int} (h : ¬ (0 ≤ N ∧ N ≤ 4096)) : wiR N l = ((0, []), 1) := by unfold wiR; rw [if_neg h]
theorem gran_ok {ws : List UInt64} {n : Nat} : (granI ws n).all (okGran n) = true := by
  rw [List.all_eq_true]
  intro g hg
  obtain ⟨g', hg', rfl⟩ := List.mem_map.1 hg
  obtain ⟨r, hr, rfl⟩ := (gran_mem _ _).1 hg'
  have := (rows_mem.1 hr).1
  unfold okGran
  rw [Bool.and_eq_true, decide_eq_true_iff, decide_eq_true_iff]
  omega
theorem set_step {l : List Bool} {k : Nat} (hk : k < l.length) : ∃ (R : List UInt64) (x : Nat), R.length = need (k + 1) ∧ (∃ hj : k / 64 < R.length, R[k / 64].toNat = x) ∧ x + 2 ^ (k % 64) < 2 ^ 64 ∧
    (k % 64 = 0 → pack (l.take k) ++ [0] = R) ∧ (¬ k % 64 = 0 → pack (l.take k) = R) ∧ (l[k] = false → R = pack (l.take (k + 1))) ∧ (l[k] = true → R.set (k / 64) (UInt64.ofNat (x + 2 ^ (k % 64))) = pack (l.take (k + 1))) := by
  have htl : (l.take k).length = k := by rw [List.length_take]; omega
  have htk := List.take_succ_eq_append_getElem hk
  have hF := snoc_false (l.take k)
  have hT := snoc_true (l.take k)
  have hrl := room_length (l.take k)
  have hadd := room_add_lt (l.take k)
  rw [htl] at hT hrl hadd
  have hj : k / 64 < (room (l.take k)).length := by rw [hrl]; unfold need; omega
  rw [List.getD_eq_getElem?_getD, List.getElem?_eq_getElem hj, Option.getD_some] at hT hadd
  refine ⟨room (l.take k), _, hrl, ⟨hj, rfl⟩, hadd, ?_, ?_, ?_, ?_⟩
  · intro h; unfold room; rw [htl, if_pos h]
  · intro h; unfold room; rw [htl, if_neg h]
  · intro h; rw [htk, h, hF]
  · intro h; rw [htk, h, hT]
theorem pack_zeros (n : Nat) : pack (List.replicate n false) = List.replicate (need n) 0 := by
  apply ext (by simp [pack_length])
  intro i _
  rw [bit_pack, getD_rep]
  unfold bit
  rw [getD_rep]
  split <;> split <;> simp
end Go.Proofs.YtggelnlbdpdegaaDoor.Rst
