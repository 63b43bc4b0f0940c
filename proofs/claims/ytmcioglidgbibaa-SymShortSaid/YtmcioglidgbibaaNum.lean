/- Numbers as bytes, on natural numbers: plain arithmetic, no program. -/
import Derived.Lib.BitFns
namespace Go.Proofs.Ytmcioglidgbibaa.Num

/-- how many bytes hold v -/
def width (v : Nat) : Nat := (Lib.bitLen v + 7) / 8
/-- k bytes of v, the lowest first -/
def le : Nat → Nat → List UInt8
  | 0, _ => []
  | k + 1, v => UInt8.ofNat v :: le k (v / 256)
/-- what bytes come to, the lowest first -/
def val : List UInt8 → Nat
  | [] => 0
  | b :: r => b.toNat + 256 * val r
/-- a number's encoding -/
def num (v : Nat) : List UInt8 := if v ≤ 247 then [UInt8.ofNat v] else UInt8.ofNat (247 + width v) :: le (width v) v
/-- how many bytes it has -/
def size (v : Nat) : Nat := if v ≤ 247 then 1 else 1 + width v
/-- the number that bytes begin with: it, its size, its error -/
def take : List UInt8 → Nat × Nat × Nat
  | [] => (0, 0, 3)
  | b :: r => if b.toNat ≤ 247 then (b.toNat, 1, 0) else if r.length < b.toNat - 247 then (0, 0, 3)
    else if size (val (r.take (b.toNat - 247))) = 1 + (b.toNat - 247) then (val (r.take (b.toNat - 247)), 1 + (b.toNat - 247), 0) else (0, 0, 2)

theorem take_cons (b : UInt8) (r : List UInt8) : take (b :: r) = if b.toNat ≤ 247 then (b.toNat, 1, 0) else if r.length < b.toNat - 247 then (0, 0, 3)
    else if size (val (r.take (b.toNat - 247))) = 1 + (b.toNat - 247) then (val (r.take (b.toNat - 247)), 1 + (b.toNat - 247), 0) else (0, 0, 2) := rfl
theorem byte_lt (b : UInt8) : b.toNat < 256 := b.toNat_lt
theorem ofNat_toNat (b : UInt8) : UInt8.ofNat b.toNat = b := by simp
theorem toNat_ofNat (x : Nat) : (UInt8.ofNat x).toNat = x % 256 := UInt8.toNat_ofNat'

theorem bitLen_pos {v : Nat} (h : 0 < v) (hv : v < 18446744073709551616) : 1 ≤ Lib.bitLen v := by
  rw [Lib.bitLen_half v (by omega) hv]; omega
theorem bitLen_zero : Lib.bitLen 0 = 0 := by decide
theorem width_zero : width 0 = 0 := by decide
theorem width_step {v : Nat} (h : 0 < v) (hv : v < 18446744073709551616) : width v = width (v / 256) + 1 := by
  unfold width
  rcases Nat.lt_or_ge v 256 with hlt | hge
  · have h1 := bitLen_pos h hv
    have h8 := Lib.bitLen_le8 ⟨v, hlt⟩
    simp only at h8
    rw [Nat.div_eq_of_lt hlt, bitLen_zero]
    omega
  · rw [Lib.bitLen_shift8 v hge hv]
    omega
theorem width_le {v k : Nat} (hk : k ≤ 8) (h : v < 256 ^ k) : width v ≤ k := by
  have h2 : v < 2 ^ (8 * k) := by rw [Nat.pow_mul]; exact h
  have := Lib.bitLen_le v (8 * k) (by omega) h2
  unfold width
  omega
theorem width_le8 {v : Nat} (h : v < 18446744073709551616) : width v ≤ 8 := width_le (Nat.le_refl _) h
theorem width_pos {v : Nat} (h : 0 < v) (hv : v < 18446744073709551616) : 1 ≤ width v := by rw [width_step h hv]; omega
theorem width_of {v : Nat} : ∀ (k : Nat), k ≤ 8 → 256 ^ k ≤ v → v < 256 ^ (k + 1) → v < 18446744073709551616 → width v = k + 1 := by
  intro k
  induction k generalizing v with
  | zero =>
    intro _ h1 h2 h3
    rw [width_step (by omega) h3, Nat.div_eq_of_lt (by simpa using h2), width_zero]
  | succ k ih =>
    intro hk h1 h2 h3
    have hp : 0 < 256 ^ k := Nat.pow_pos (by omega)
    rw [Nat.pow_succ] at h1 h2
    rw [width_step (by omega) h3, ih (by omega) (by omega) (by omega) (by omega)]
theorem lt_width {v : Nat} (hv : v < 18446744073709551616) : v < 256 ^ width v := by
  induction v using Nat.strongRecOn with
  | ind v ih =>
    rcases Nat.eq_zero_or_pos v with h0 | h0
    · subst h0; rw [width_zero]; decide
    · rw [width_step h0 hv, Nat.pow_succ]
      have := ih (v / 256) (by omega) (by omega)
      omega

theorem le_length (k v : Nat) : (le k v).length = k := by
  induction k generalizing v with
  | zero => rfl
  | succ k ih => simp [le, ih]
theorem le_snoc (k v : Nat) : le (k + 1) v = le k v ++ [UInt8.ofNat (v / 256 ^ k)] := by
  induction k generalizing v with
  | zero => simp [le]
  | succ k ih =>
    rw [le, ih, le, List.cons_append, Nat.div_div_eq_div_mul, Nat.pow_succ, Nat.mul_comm 256]
theorem val_lt (l : List UInt8) : val l < 256 ^ l.length := by
  induction l with
  | nil => decide
  | cons b r ih =>
    have := byte_lt b
    rw [val, List.length_cons, Nat.pow_succ]
    omega
theorem val_le {k v : Nat} (h : v < 256 ^ k) : val (le k v) = v := by
  induction k generalizing v with
  | zero => simp at h; subst h; rfl
  | succ k ih =>
    rw [Nat.pow_succ] at h
    rw [le, val, ih (by omega), toNat_ofNat]
    omega
theorem le_val (l : List UInt8) : le l.length (val l) = l := by
  induction l with
  | nil => rfl
  | cons b r ih =>
    have hb := byte_lt b
    rw [List.length_cons, le, val, show (b.toNat + 256 * val r) / 256 = val r from by omega, ih]
    congr 1
    apply UInt8.toNat_inj.1
    rw [toNat_ofNat]
    omega
theorem val_snoc (l : List UInt8) (b : UInt8) : val (l ++ [b]) = val l + b.toNat * 256 ^ l.length := by
  induction l with
  | nil => simp [val]
  | cons c r ih =>
    rw [List.cons_append, val, ih, val, List.length_cons, Nat.pow_succ, Nat.mul_add, ← Nat.mul_assoc, Nat.mul_comm 256 b.toNat, Nat.mul_assoc, Nat.mul_comm 256 (256 ^ r.length)]
    omega

theorem size_pos (v : Nat) : 1 ≤ size v := by unfold size; split <;> omega
theorem size_le9 {v : Nat} (h : v < 18446744073709551616) : size v ≤ 9 := by
  have := width_le8 h
  unfold size; split <;> omega
theorem num_length (v : Nat) : (num v).length = size v := by
  unfold num size
  split
  · rfl
  · simp [le_length]; omega

/-- what is put is taken, whatever stands behind -/
theorem take_num {v : Nat} (hv : v < 18446744073709551616) (t : List UInt8) : take (num v ++ t) = (v, size v, 0) := by
  unfold num size
  split
  · rename_i h
    simp only [List.cons_append, List.nil_append, take, toNat_ofNat]
    rw [Nat.mod_eq_of_lt (by omega), if_pos h]
  · rename_i h
    have h8 := width_le8 hv
    have h1 := width_pos (by omega) hv
    have hb : (UInt8.ofNat (247 + width v)).toNat = 247 + width v := by rw [toNat_ofNat]; omega
    have htake : (le (width v) v ++ t).take (width v) = le (width v) v := List.take_left' (le_length _ _)
    simp only [List.cons_append, take, hb]
    rw [if_neg (by omega), if_neg (by rw [List.length_append, le_length]; omega), show 247 + width v - 247 = width v from by omega, htake, val_le (lt_width hv)]
    have : size v = 1 + width v := by unfold size; rw [if_neg h]
    rw [if_pos this]

/-- what is taken, put again, are the same bytes -/
theorem num_take {l : List UInt8} {v s : Nat} (h : take l = (v, s, 0)) : num v = l.take s ∧ s = size v ∧ s ≤ l.length ∧ v < 18446744073709551616 := by
  cases l with
  | nil => simp [take] at h
  | cons b r =>
    have hb := byte_lt b
    rw [take_cons] at h
    split at h
    · rename_i h1
      simp only [Prod.mk.injEq, and_true] at h
      obtain ⟨rfl, rfl⟩ := h
      refine ⟨?_, ?_, by simp, by omega⟩
      · unfold num; rw [if_pos h1, ofNat_toNat]; rfl
      · unfold size; rw [if_pos h1]
    · rename_i h1
      split at h
      · simp at h
      · rename_i h2
        split at h
        · rename_i h3
          simp only [Prod.mk.injEq, and_true] at h
          obtain ⟨rfl, rfl⟩ := h
          have hlen : (r.take (b.toNat - 247)).length = b.toNat - 247 := by simp; omega
          have hvl := val_lt (r.take (b.toNat - 247))
          rw [hlen] at hvl
          have hv : val (r.take (b.toNat - 247)) < 18446744073709551616 := Nat.lt_of_lt_of_le hvl (Nat.le_trans (Nat.pow_le_pow_right (by omega) (show b.toNat - 247 ≤ 8 by omega)) (by decide))
          have hnot : ¬ val (r.take (b.toNat - 247)) ≤ 247 := fun hle => by
            unfold size at h3; rw [if_pos hle] at h3; omega
          have hw : width (val (r.take (b.toNat - 247))) = b.toNat - 247 := by
            unfold size at h3; rw [if_neg hnot] at h3; omega
          refine ⟨?_, h3.symm, by simp; omega, hv⟩
          unfold num
          rw [if_neg hnot, hw, show 247 + (b.toNat - 247) = b.toNat from by omega, ofNat_toNat, Nat.add_comm 1, List.take_succ_cons]
          have e := le_val (r.take (b.toNat - 247))
          rw [hlen] at e
          exact congrArg (b :: ·) e
        · simp at h

/-- Is a number taken, or which error? -/
theorem take_cases (l : List UInt8) : (∃ v s, take l = (v, s, 0)) ∨ ∃ e, take l = (0, 0, e) ∧ (e = 3 ∨ e = 2) := by
  cases l with
  | nil => exact .inr ⟨3, rfl, .inl rfl⟩
  | cons b r =>
    rw [take_cons]
    split
    · exact .inl ⟨_, _, rfl⟩
    · split
      · exact .inr ⟨3, rfl, .inl rfl⟩
      · split
        · exact .inl ⟨_, _, rfl⟩
        · exact .inr ⟨2, rfl, .inr rfl⟩

/-- an integer, folded -/
def fold (n : Int) : Nat := if 0 ≤ n then (2 * n).toNat else (-2 * n - 1).toNat
/-- a number, unfolded -/
def unfold (v : Nat) : Int := if v % 2 = 0 then ((v / 2 : Nat) : Int) else -((v / 2 : Nat) : Int) - 1
theorem unfold_fold (n : Int) : unfold (fold n) = n := by
  unfold fold Num.unfold
  split <;> split <;> omega
theorem fold_unfold (v : Nat) : fold (unfold v) = v := by
  unfold fold Num.unfold
  split <;> split <;> omega
theorem fold_lt {n : Int} (h0 : -9223372036854775808 ≤ n) (h1 : n ≤ 9223372036854775807) : fold n < 18446744073709551616 := by
  unfold fold
  split <;> omega
theorem unfold_fits {v : Nat} (h : v < 18446744073709551616) : -9223372036854775808 ≤ unfold v ∧ unfold v ≤ 9223372036854775807 := by
  unfold Num.unfold
  split <;> omega
end Go.Proofs.Ytmcioglidgbibaa.Num
