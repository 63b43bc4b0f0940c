/- Numbers of few bits side by side, on natural numbers: plain arithmetic, no program. A list of numbers by a width is ONE number, lowest first; packed it is that number's bytes. -/
import Derived.Test.YtcknijkjacgnkaaNum
namespace Go.Proofs.Ytcknijkjacgnkaa.Bits

/-- numbers side by side, as one number -/
def cat (w : Nat) : List UInt64 → Nat
  | [] => 0
  | x :: r => x.toNat + 2 ^ w * cat w r
/-- how many bytes n numbers have -/
def size (n w : Nat) : Nat := (n * w + 7) / 8
/-- are all below 2^w? -/
def Fit (w : Nat) (l : List UInt64) : Prop := ∀ x ∈ l, x.toNat < 2 ^ w
/-- n numbers of the width w out of one -/
def parts (n w N : Nat) : List UInt64 := (List.range n).map fun i => UInt64.ofNat (N / 2 ^ (i * w) % 2 ^ w)
/-- the bytes of packed numbers -/
def packed (w : Nat) (l : List UInt64) : List UInt8 := Num.le (size l.length w) (cat w l)

theorem u64_lt (x : UInt64) : x.toNat < 18446744073709551616 := x.toNat_lt
theorem u64_ofNat (x : UInt64) : UInt64.ofNat x.toNat = x := by simp
theorem toNat_ofNat {n : Nat} (h : n < 18446744073709551616) : (UInt64.ofNat n).toNat = n := by
  rw [UInt64.toNat_ofNat']
  omega
theorem pow_pos (k : Nat) : 0 < 2 ^ k := Nat.two_pow_pos k
theorem pow_le64 {w : Nat} (hw : w ≤ 64) : (2 : Nat) ^ w ≤ 18446744073709551616 := Nat.le_trans (Nat.pow_le_pow_right (by omega) hw) (by decide)
theorem pow256 (k : Nat) : (256 : Nat) ^ k = 2 ^ (8 * k) := by rw [Nat.pow_mul]

theorem Fit.nil (w : Nat) : Fit w [] := fun _ h => by cases h
theorem Fit.head {w : Nat} {x : UInt64} {r : List UInt64} (h : Fit w (x :: r)) : x.toNat < 2 ^ w := h x (List.mem_cons_self ..)
theorem Fit.tail {w : Nat} {x : UInt64} {r : List UInt64} (h : Fit w (x :: r)) : Fit w r := fun y hy => h y (List.mem_cons_of_mem _ hy)
theorem Fit.get {w : Nat} {l : List UInt64} (h : Fit w l) {i : Nat} (hi : i < l.length) : l[i].toNat < 2 ^ w := h _ (List.getElem_mem hi)
theorem Fit.take {w : Nat} {l : List UInt64} (h : Fit w l) (k : Nat) : Fit w (l.take k) := fun x hx => h x (List.mem_of_mem_take hx)

theorem cat_lt {w : Nat} {l : List UInt64} (h : Fit w l) : cat w l < 2 ^ (l.length * w) := by
  induction l with
  | nil => simp [cat]
  | cons x r ih =>
    have h1 := h.head
    have h2 := ih h.tail
    rw [cat, List.length_cons, Nat.succ_mul, Nat.add_comm (r.length * w), Nat.pow_add]
    have h3 : 2 ^ w * (cat w r + 1) ≤ 2 ^ w * 2 ^ (r.length * w) := Nat.mul_le_mul_left _ h2
    rw [Nat.mul_add] at h3
    omega
theorem cat_snoc (w : Nat) (l : List UInt64) (x : UInt64) : cat w (l ++ [x]) = cat w l + 2 ^ (l.length * w) * x.toNat := by
  induction l with
  | nil => simp [cat]
  | cons y r ih =>
    rw [List.cons_append, cat, ih, cat, List.length_cons, Nat.succ_mul, Nat.add_comm (r.length * w), Nat.pow_add, Nat.mul_add, Nat.mul_assoc]
    omega
theorem cat_append (w : Nat) (a b : List UInt64) : cat w (a ++ b) = cat w a + 2 ^ (a.length * w) * cat w b := by
  induction a with
  | nil => simp [cat]
  | cons y r ih =>
    rw [List.cons_append, cat, ih, cat, List.length_cons, Nat.succ_mul, Nat.add_comm (r.length * w), Nat.pow_add, Nat.mul_add, Nat.mul_assoc]
    omega
/-- the numbers again -/
theorem cat_part {w : Nat} {l : List UInt64} (h : Fit w l) {i : Nat} (hi : i < l.length) : cat w l / 2 ^ (i * w) % 2 ^ w = l[i].toNat := by
  induction l generalizing i with
  | nil => simp at hi
  | cons x r ih =>
    have h1 := h.head
    cases i with
    | zero =>
      rw [Nat.zero_mul, Nat.pow_zero, Nat.div_one, cat, Nat.add_mul_mod_self_left, Nat.mod_eq_of_lt h1]
      rfl
    | succ i =>
      rw [Nat.succ_mul, Nat.add_comm (i * w), Nat.pow_add, ← Nat.div_div_eq_div_mul, cat, Nat.add_mul_div_left _ _ (pow_pos w), Nat.div_eq_of_lt h1, Nat.zero_add]
      exact ih h.tail (by simpa using hi)
theorem parts_length (n w N : Nat) : (parts n w N).length = n := by simp [parts]
theorem parts_get {n w N i : Nat} (hw : w ≤ 64) (hi : i < (parts n w N).length) : (parts n w N)[i].toNat = N / 2 ^ (i * w) % 2 ^ w := by
  have hp := pow_le64 hw
  have : N / 2 ^ (i * w) % 2 ^ w < 2 ^ w := Nat.mod_lt _ (pow_pos w)
  simp only [parts, List.getElem_map, List.getElem_range]
  exact toNat_ofNat (by omega)
theorem parts_fit {n w N : Nat} (hw : w ≤ 64) : Fit w (parts n w N) := fun x hx => by
  obtain ⟨i, hi, rfl⟩ := List.getElem_of_mem hx
  rw [parts_get hw hi]
  exact Nat.mod_lt _ (pow_pos w)
theorem parts_cat {w : Nat} {l : List UInt64} (hw : w ≤ 64) (h : Fit w l) : parts l.length w (cat w l) = l := by
  apply List.ext_getElem (parts_length _ _ _)
  intro i h1 h2
  apply UInt64.toNat_inj.1
  rw [parts_get hw h1, cat_part h h2]
theorem parts_succ (n w N : Nat) : parts (n + 1) w N = parts n w N ++ [UInt64.ofNat (N / 2 ^ (n * w) % 2 ^ w)] := by simp [parts, List.range_succ]
theorem cat_parts {n w N : Nat} (hw : w ≤ 64) : cat w (parts n w N) = N % 2 ^ (n * w) := by
  induction n with
  | zero => simp [parts, cat, Nat.mod_one]
  | succ n ih =>
    have hp := pow_le64 hw
    have hlt : N / 2 ^ (n * w) % 2 ^ w < 2 ^ w := Nat.mod_lt _ (pow_pos w)
    rw [parts_succ, cat_snoc, ih, parts_length, toNat_ofNat (by omega), Nat.succ_mul, Nat.pow_add, Nat.mod_mul]

/-- room for all bits -/
theorem pow_size (n w : Nat) : (2 : Nat) ^ (n * w) ≤ 256 ^ size n w := by
  rw [pow256]
  apply Nat.pow_le_pow_right (by omega)
  unfold size
  omega
theorem packed_length (w : Nat) (l : List UInt64) : (packed w l).length = size l.length w := Num.le_length _ _
theorem val_packed {w : Nat} {l : List UInt64} (h : Fit w l) : Num.val (packed w l) = cat w l := Num.val_le (Nat.lt_of_lt_of_le (cat_lt h) (pow_size _ _))

theorem le_take {k j : Nat} (N : Nat) (h : j ≤ k) : (Num.le k N).take j = Num.le j N := by
  induction j generalizing k N with
  | zero => simp [Num.le]
  | succ j ih =>
    obtain ⟨k, rfl⟩ : ∃ m, k = m + 1 := ⟨k - 1, by omega⟩
    rw [Num.le, List.take_succ_cons, ih _ (by omega), Num.le]
theorem le_mod (j N : Nat) : Num.le j (N % 256 ^ j) = Num.le j N := by
  induction j generalizing N with
  | zero => rfl
  | succ j ih =>
    rw [Num.le, Num.le, ← ih (N / 256)]
    congr 1
    · apply UInt8.toNat_inj.1
      rw [Num.toNat_ofNat, Num.toNat_ofNat, Nat.pow_succ, Nat.mul_comm, Nat.mod_mul_right_mod]
    · rw [Nat.pow_succ, Nat.mul_comm, Nat.mod_mul_right_div_self]

/-- a bit of all bytes is a bit of its byte -/
theorem val_bit {b : List UInt8} {p : Nat} (hp : p / 8 < b.length) : Num.val b / 2 ^ p % 2 = b[p / 8].toNat / 2 ^ (p % 8) % 2 := by
  induction b generalizing p with
  | nil => simp at hp
  | cons x r ih =>
    have hx := Num.byte_lt x
    rcases Nat.lt_or_ge p 8 with h | h
    · have e : p / 8 = 0 := by omega
      have e2 : p % 8 = p := by omega
      simp only [e, e2, List.getElem_cons_zero, Num.val]
      have hm : (256 : Nat) = 2 ^ p * 2 ^ (8 - p) := by rw [← Nat.pow_add, show p + (8 - p) = 8 from by omega]
      rw [hm, Nat.mul_assoc, Nat.add_mul_div_left _ _ (pow_pos p)]
      have h2 : (2 : Nat) ^ (8 - p) = 2 * 2 ^ (7 - p) := by rw [← Nat.pow_succ', show (7 - p).succ = 8 - p from by omega]
      rw [h2, Nat.mul_assoc, Nat.add_mul_mod_self_left]
    · obtain ⟨q, rfl⟩ : ∃ q, p = q + 8 := ⟨p - 8, by omega⟩
      have e : (q + 8) / 8 = q / 8 + 1 := by omega
      have e2 : (q + 8) % 8 = q % 8 := by omega
      simp only [e, e2, List.getElem_cons_succ, Num.val]
      rw [← ih (by simp only [e, List.length_cons] at hp; omega), Nat.add_comm q 8, Nat.pow_add, ← Nat.div_div_eq_div_mul, show (2 : Nat) ^ 8 = 256 from rfl, Nat.add_mul_div_left _ _ (by omega), Nat.div_eq_of_lt hx, Nat.zero_add]
/-- a byte that gets 2^m more -/
theorem val_set {b : List UInt8} {j m : Nat} (hj : j < b.length) (hm : b[j].toNat + 2 ^ m < 256) : Num.val (b.set j (UInt8.ofNat (b[j].toNat + 2 ^ m))) = Num.val b + 2 ^ (8 * j + m) := by
  induction b generalizing j with
  | nil => simp at hj
  | cons x r ih =>
    cases j with
    | zero =>
      simp only [List.getElem_cons_zero] at hm ⊢
      rw [List.set_cons_zero, Num.val, Num.val, Num.toNat_ofNat, Nat.mod_eq_of_lt hm, Nat.mul_zero, Nat.zero_add]
      omega
    | succ j =>
      simp only [List.getElem_cons_succ] at hm ⊢
      rw [List.set_cons_succ, Num.val, ih (by simpa using hj) hm, Num.val, show 8 * (j + 1) + m = 8 + (8 * j + m) from by omega, Nat.pow_add 2 8, Nat.mul_add]
      omega
/-- of bytes that come to less than 2^(8j + m) byte j is below 2^m -/
theorem val_small {b : List UInt8} {j m : Nat} (hj : j < b.length) (h : Num.val b < 2 ^ (8 * j + m)) : b[j].toNat < 2 ^ m := by
  induction b generalizing j with
  | nil => simp at hj
  | cons x r ih =>
    cases j with
    | zero =>
      simp only [List.getElem_cons_zero]
      rw [Num.val, Nat.mul_zero, Nat.zero_add] at h
      omega
    | succ j =>
      simp only [List.getElem_cons_succ]
      apply ih (by simpa using hj)
      rw [Num.val, show 8 * (j + 1) + m = 8 + (8 * j + m) from by omega, Nat.pow_add 2 8] at h
      omega
theorem val_zeros (n : Nat) : Num.val (List.replicate n 0) = 0 := by
  induction n with
  | zero => rfl
  | succ n ih => rw [List.replicate_succ, Num.val, ih]; rfl

/-- What a list begins with, packed, is what the list, packed, begins with, where it ends with a byte. -/
theorem packed_take {w : Nat} {l : List UInt64} {i : Nat} (h : Fit w l) (hi : i ≤ l.length) (h8 : i * w % 8 = 0) : packed w (l.take i) = (packed w l).take (size i w) := by
  have hl : (l.take i).length = i := by rw [List.length_take]; omega
  have hs : 8 * size i w = i * w := by unfold size; omega
  have hle : size i w ≤ size l.length w := by
    have := Nat.mul_le_mul_right w hi
    unfold size
    omega
  have hc : cat w l = cat w (l.take i) + 2 ^ (i * w) * cat w (l.drop i) := by
    conv => lhs; rw [← List.take_append_drop i l]
    rw [cat_append, hl]
  have hlt := cat_lt (h.take i)
  rw [hl] at hlt
  unfold packed
  rw [le_take _ hle, hl, ← le_mod (size i w) (cat w l), pow256, hs, hc, Nat.add_mul_mod_self_left, Nat.mod_eq_of_lt hlt]
end Go.Proofs.Ytcknijkjacgnkaa.Bits
