/- More of numbers of few bits, on natural numbers: the width of a list; what a byte gets and gives that holds some bits of a number; what Pack and Unpack answer. -/
import Derived.Test.YtcknijkjacgnkaaBits
namespace Go.Proofs.Ytcknijkjacgnkaa.Bits

/-- every bit that any of the numbers has -/
def orAll (l : List UInt64) : Nat := l.foldl (fun a x => a ||| x.toNat) 0
theorem orAll_snoc (l : List UInt64) (x : UInt64) : orAll (l ++ [x]) = orAll l ||| x.toNat := by simp [orAll]
theorem or_lt_iff {a b w : Nat} : a ||| b < 2 ^ w ↔ a < 2 ^ w ∧ b < 2 ^ w :=
  ⟨fun h => ⟨Nat.lt_of_le_of_lt Nat.left_le_or h, Nat.lt_of_le_of_lt Nat.right_le_or h⟩, fun h => Nat.or_lt_two_pow h.1 h.2⟩
theorem orFold_lt {w : Nat} (l : List UInt64) (a : Nat) : l.foldl (fun a x => a ||| x.toNat) a < 2 ^ w ↔ a < 2 ^ w ∧ Fit w l := by
  induction l generalizing a with
  | nil => exact ⟨fun h => ⟨h, Fit.nil w⟩, fun h => h.1⟩
  | cons x r ih =>
    rw [List.foldl_cons, ih, or_lt_iff]
    constructor
    · rintro ⟨⟨h1, h2⟩, h3⟩
      refine ⟨h1, fun y hy => ?_⟩
      rcases List.mem_cons.1 hy with rfl | hy
      · exact h2
      · exact h3 y hy
    · rintro ⟨h1, h2⟩
      exact ⟨⟨h1, h2.head⟩, h2.tail⟩
theorem orAll_lt_iff {w : Nat} {l : List UInt64} : orAll l < 2 ^ w ↔ Fit w l := by
  unfold orAll
  rw [orFold_lt]
  exact ⟨fun h => h.2, fun h => ⟨pow_pos w, h⟩⟩
theorem fit64 (l : List UInt64) : Fit 64 l := fun x _ => x.toNat_lt
theorem orAll_lt (l : List UInt64) : orAll l < 18446744073709551616 := orAll_lt_iff.2 (fit64 l)
theorem Fit.mono {v w : Nat} {l : List UInt64} (h : Fit v l) (hw : v ≤ w) : Fit w l := fun x hx => Nat.lt_of_lt_of_le (h x hx) (Nat.pow_le_pow_right (by omega) hw)
theorem Fit.snoc {w : Nat} {l : List UInt64} {x : UInt64} (h : Fit w l) (hx : x.toNat < 2 ^ w) : Fit w (l ++ [x]) := fun y hy => by
  rcases List.mem_append.1 hy with hy | hy
  · exact h y hy
  · rw [List.mem_singleton.1 hy]; exact hx

theorem lt_bitLen {v : Nat} (hv : v < 18446744073709551616) : v < 2 ^ Lib.bitLen v := by
  induction v using Nat.strongRecOn with
  | ind v ih =>
    rcases Nat.eq_zero_or_pos v with h0 | h0
    · subst h0; exact pow_pos _
    · rw [Lib.bitLen_half v (by omega) (by omega), Nat.add_comm, Nat.pow_succ]
      have := ih (v / 2) (by omega) (by omega)
      omega
theorem bitLen_le_iff {v w : Nat} (hv : v < 18446744073709551616) (hw : w ≤ 64) : Lib.bitLen v ≤ w ↔ v < 2 ^ w :=
  ⟨fun h => Nat.lt_of_lt_of_le (lt_bitLen hv) (Nat.pow_le_pow_right (by omega) h), fun h => Lib.bitLen_le v w hw h⟩
/-- the least width -/
def width (l : List UInt64) : Nat := Lib.bitLen (orAll l)
theorem width_le64 (l : List UInt64) : width l ≤ 64 := Lib.bitLen_le _ 64 (Nat.le_refl _) (orAll_lt l)
theorem width_le_iff {w : Nat} (l : List UInt64) (hw : w ≤ 64) : width l ≤ w ↔ Fit w l := by
  unfold width
  rw [bitLen_le_iff (orAll_lt l) hw, orAll_lt_iff]
theorem fit_width (l : List UInt64) : Fit (width l) l := (width_le_iff l (width_le64 l)).1 (Nat.le_refl _)
/-- it is the only one that is the least -/
theorem width_unique {l : List UInt64} {w : Nat} (hw : w ≤ 64) (h : Fit w l) (hmin : ∀ k, k < w → ¬ Fit k l) : w = width l := by
  have h1 : width l ≤ w := (width_le_iff l hw).2 h
  rcases Nat.lt_or_ge (width l) w with hlt | hge
  · exact absurd (fit_width l) (hmin _ hlt)
  · omega

/-- a byte whose bits from s on are 0 gets the lowest 8 - s bits of a number -/
theorem put_byte {b v s : Nat} (hs : s < 8) (hb : b < 2 ^ s) : b ||| (v % 256 * 2 ^ s) % 256 = b + (v % 2 ^ (8 - s)) * 2 ^ s := by
  have e : (256 : Nat) = 2 ^ s * 2 ^ (8 - s) := by rw [← Nat.pow_add, show s + (8 - s) = 8 from by omega]
  have h1 : (v % 256 * 2 ^ s) % 256 = (v % 2 ^ (8 - s)) * 2 ^ s := by
    rw [Nat.mul_comm (v % 256)]
    conv => lhs; rhs; rw [e]
    rw [Nat.mul_mod_mul_left, Nat.mul_comm]
    congr 1
    rw [e, Nat.mul_comm (2 ^ s), Nat.mod_mul_right_mod]
  rw [h1, Nat.or_comm, Nat.mul_comm, ← Nat.two_pow_add_eq_or_of_lt hb]
  omega
theorem put_byte_lt {b v s : Nat} (hs : s < 8) (hb : b < 2 ^ s) : b + (v % 2 ^ (8 - s)) * 2 ^ s < 256 := by
  have e : (256 : Nat) = 2 ^ (8 - s) * 2 ^ s := by rw [← Nat.pow_add, show 8 - s + s = 8 from by omega]
  have h1 : v % 2 ^ (8 - s) + 1 ≤ 2 ^ (8 - s) := Nat.mod_lt _ (pow_pos _)
  have h2 := Nat.mul_le_mul_right (2 ^ s) h1
  rw [← e, Nat.add_mul] at h2
  omega
/-- a byte that gets more -/
theorem val_add {b : List UInt8} {j m : Nat} (hj : j < b.length) (hm : b[j].toNat + m < 256) : Num.val (b.set j (UInt8.ofNat (b[j].toNat + m))) = Num.val b + m * 2 ^ (8 * j) := by
  induction b generalizing j with
  | nil => simp at hj
  | cons x r ih =>
    cases j with
    | zero =>
      simp only [List.getElem_cons_zero] at hm ⊢
      rw [List.set_cons_zero, Num.val, Num.val, Num.toNat_ofNat, Nat.mod_eq_of_lt hm, Nat.mul_zero, Nat.pow_zero, Nat.mul_one]
      omega
    | succ j =>
      simp only [List.getElem_cons_succ] at hm ⊢
      rw [List.set_cons_succ, Num.val, ih (by simpa using hj) hm, Num.val, show 8 * (j + 1) = 8 + 8 * j from by omega, Nat.pow_add 2 8, show (2 : Nat) ^ 8 = 256 from rfl, Nat.mul_add, Nat.mul_left_comm m 256]
      omega
/-- ONE STEP of a number into its bytes: byte (8j + s) / 8 gets what it has room for -/
theorem val_put {b : List UInt8} {j s v : Nat} (hj : j < b.length) (hs : s < 8) (hb : Num.val b < 2 ^ (8 * j + s)) :
    Num.val (b.set j (UInt8.ofNat (b[j].toNat ||| (v % 256 * 2 ^ s) % 256))) + (v / 2 ^ (8 - s)) * 2 ^ (8 * j + 8) = Num.val b + v * 2 ^ (8 * j + s) ∧
      Num.val (b.set j (UInt8.ofNat (b[j].toNat ||| (v % 256 * 2 ^ s) % 256))) < 2 ^ (8 * j + 8) := by
  have hbj : b[j].toNat < 2 ^ s := val_small hj hb
  have hlt := put_byte_lt (v := v) hs hbj
  rw [put_byte hs hbj, val_add hj hlt]
  have e8 : (2 : Nat) ^ (8 * j + 8) = 2 ^ (8 - s) * 2 ^ (8 * j + s) := by rw [← Nat.pow_add, show 8 - s + (8 * j + s) = 8 * j + 8 from by omega]
  have es : (v % 2 ^ (8 - s)) * 2 ^ s * 2 ^ (8 * j) = (v % 2 ^ (8 - s)) * 2 ^ (8 * j + s) := by rw [Nat.mul_assoc, ← Nat.pow_add, Nat.add_comm s]
  rw [es, e8]
  have hP := pow_pos (8 * j + s)
  have hv : (v / 2 ^ (8 - s)) * (2 ^ (8 - s) * 2 ^ (8 * j + s)) + (v % 2 ^ (8 - s)) * 2 ^ (8 * j + s) = v * 2 ^ (8 * j + s) := by
    rw [← Nat.mul_assoc, ← Nat.add_mul]
    congr 1
    rw [Nat.mul_comm]
    exact Nat.div_add_mod v (2 ^ (8 - s))
  have h1 : v % 2 ^ (8 - s) + 1 ≤ 2 ^ (8 - s) := Nat.mod_lt _ (pow_pos _)
  have h2 := Nat.mul_le_mul_right (2 ^ (8 * j + s)) h1
  rw [Nat.add_mul] at h2
  generalize 2 ^ (8 * j + s) = P at *
  constructor <;> omega

/-- some bits of all bytes are the upper bits of a byte -/
theorem val_bits {b : List UInt8} {p : Nat} (hp : p / 8 < b.length) : b[p / 8].toNat / 2 ^ (p % 8) = Num.val b / 2 ^ p % 2 ^ (8 - p % 8) := by
  induction b generalizing p with
  | nil => simp at hp
  | cons x r ih =>
    have hx := Num.byte_lt x
    rcases Nat.lt_or_ge p 8 with h | h
    · have e : p / 8 = 0 := by omega
      have e2 : p % 8 = p := by omega
      simp only [e, e2, List.getElem_cons_zero, Num.val]
      have hm : (256 : Nat) = 2 ^ p * 2 ^ (8 - p) := by rw [← Nat.pow_add, show p + (8 - p) = 8 from by omega]
      have hlt : x.toNat / 2 ^ p < 2 ^ (8 - p) := by rw [Nat.div_lt_iff_lt_mul (pow_pos p), Nat.mul_comm, ← hm]; exact hx
      rw [hm, Nat.mul_assoc, Nat.add_mul_div_left _ _ (pow_pos p), Nat.add_mul_mod_self_left, Nat.mod_eq_of_lt hlt]
    · obtain ⟨q, rfl⟩ : ∃ q, p = q + 8 := ⟨p - 8, by omega⟩
      have e : (q + 8) / 8 = q / 8 + 1 := by omega
      have e2 : (q + 8) % 8 = q % 8 := by omega
      simp only [e, e2, List.getElem_cons_succ, Num.val]
      rw [ih (by simp only [e, List.length_cons] at hp; omega), Nat.add_comm q 8, Nat.pow_add, ← Nat.div_div_eq_div_mul, show (2 : Nat) ^ 8 = 256 from rfl, Nat.add_mul_div_left _ _ (by omega), Nat.div_eq_of_lt hx, Nat.zero_add]
/-- lower bits and the next ones -/
theorem mod_more (M g k : Nat) : M % 2 ^ g + (M / 2 ^ g % 2 ^ k) * 2 ^ g = M % 2 ^ (g + k) := by
  rw [Nat.pow_add, Nat.mod_mul, Nat.mul_comm (2 ^ g)]
/-- ONE STEP of a number out of its bytes, in 64 bits -/
theorem or_more {M g k : Nat} (hg : g < 64) : (M % 2 ^ g) ||| ((M / 2 ^ g % 2 ^ k) * 2 ^ g) % 18446744073709551616 = M % 2 ^ (g + k) % 18446744073709551616 := by
  have e : (18446744073709551616 : Nat) = 2 ^ g * 2 ^ (64 - g) := by rw [← Nat.pow_add, show g + (64 - g) = 64 from by omega]
  have hY : M % 2 ^ g < 2 ^ g := Nat.mod_lt _ (pow_pos g)
  rw [← mod_more, Nat.mul_comm _ (2 ^ g), e, Nat.mul_mod_mul_left, Nat.or_comm, ← Nat.two_pow_add_eq_or_of_lt hY, Nat.add_comm (M % 2 ^ g), Nat.mod_mul,
    Nat.mul_add_mod, Nat.mod_eq_of_lt hY, Nat.mul_add_div (pow_pos g), Nat.div_eq_of_lt hY, Nat.add_zero]
  omega
/-- the mask -/
theorem and_low (Y w : Nat) : Y &&& (2 ^ w - 1) = Y % 2 ^ w := Nat.and_two_pow_sub_one_eq_mod Y w
theorem mod_mod_le {M w g : Nat} (h : w ≤ g) : M % 2 ^ g % 2 ^ w = M % 2 ^ w := by
  obtain ⟨d, rfl⟩ : ∃ d, g = w + d := ⟨g - w, by omega⟩
  rw [Nat.pow_add, Nat.mod_mul_right_mod]
theorem out_all {M w g : Nat} (hw : w ≤ 64) (h : w ≤ g) : M % 2 ^ g % 18446744073709551616 % 2 ^ w = M % 2 ^ w := by
  rw [show (18446744073709551616 : Nat) = 2 ^ 64 from rfl, mod_mod_le hw, mod_mod_le h]

/-- Is a bit behind the numbers set? -/
theorem unused {b : List UInt8} {p : Nat} (hlen : b.length = (p + 7) / 8) (h8 : p % 8 ≠ 0) : ∃ hp : p / 8 < b.length, (b[p / 8].toNat / 2 ^ (p % 8) = 0 ↔ Num.val b < 2 ^ p) := by
  have hp : p / 8 < b.length := by omega
  refine ⟨hp, ?_⟩
  have hv := Num.val_lt b
  rw [pow256, hlen, show 8 * ((p + 7) / 8) = p + (8 - p % 8) from by omega, Nat.pow_add] at hv
  have hlt : Num.val b / 2 ^ p < 2 ^ (8 - p % 8) := by rw [Nat.div_lt_iff_lt_mul (pow_pos p), Nat.mul_comm]; exact hv
  rw [val_bits hp, Nat.mod_eq_of_lt hlt]
  constructor
  · intro h
    rcases Nat.lt_or_ge (Num.val b) (2 ^ p) with h1 | h1
    · exact h1
    · have := Nat.div_pos h1 (pow_pos p)
      omega
  · exact fun h => Nat.div_eq_of_lt h
theorem used_all {b : List UInt8} {p : Nat} (hlen : b.length = (p + 7) / 8) (h8 : p % 8 = 0) : Num.val b < 2 ^ p := by
  have hv := Num.val_lt b
  rwa [pow256, hlen, show 8 * ((p + 7) / 8) = p from by omega] at hv

/-- what Pack answers: the bytes, and the error -/
def pack (l : List UInt64) (w : Int) : List UInt8 × Nat :=
  if w < 0 ∨ 64 < w then ([], 1) else if width l ≤ w.toNat then (packed w.toNat l, 0) else ([], 7)
/-- what Unpack answers: the numbers, and the error -/
def unpack (b : List UInt8) (n w : Int) : List UInt64 × Nat :=
  if w < 0 ∨ 64 < w ∨ n < 0 ∨ 4096 < n then ([], 1) else if b.length < size n.toNat w.toNat then ([], 3)
  else if size n.toNat w.toNat < b.length ∨ 2 ^ (n.toNat * w.toNat) ≤ Num.val b then ([], 2) else (parts n.toNat w.toNat (Num.val b), 0)

theorem pack_ok {l : List UInt64} {w : Nat} (hw : w ≤ 64) (h : Fit w l) : pack l (w : Int) = (packed w l, 0) := by
  unfold pack
  rw [if_neg (by omega), Int.toNat_natCast, if_pos ((width_le_iff l hw).2 h)]
theorem pack_range {l : List UInt64} {w : Nat} (hw : w ≤ 64) (h : ¬ Fit w l) : pack l (w : Int) = ([], 7) := by
  unfold pack
  rw [if_neg (by omega), Int.toNat_natCast, if_neg (fun h' => h ((width_le_iff l hw).1 h'))]
/-- what is packed is unpacked -/
theorem unpack_pack {l : List UInt64} {w : Nat} (hw : w ≤ 64) (h : Fit w l) (hl : l.length ≤ 4096) : unpack (packed w l) (l.length : Int) (w : Int) = (l, 0) := by
  unfold unpack
  simp only [Int.toNat_natCast, packed_length, val_packed h]
  have := cat_lt h
  rw [if_neg (by omega), if_neg (by omega), if_neg (by omega), parts_cat hw h]
/-- what is unpacked is packed -/
theorem pack_unpack {b : List UInt8} {n w : Int} {l : List UInt64} (h : unpack b n w = (l, 0)) : pack l w = (b, 0) ∧ (l.length : Int) = n := by
  unfold unpack at h
  split at h
  · simp at h
  · rename_i h1
    split at h
    · simp at h
    · rename_i h2
      split at h
      · simp at h
      · rename_i h3
        simp only [Prod.mk.injEq, and_true] at h
        subst h
        obtain ⟨n', rfl⟩ : ∃ m : Nat, n = m := ⟨n.toNat, by omega⟩
        obtain ⟨w', rfl⟩ : ∃ m : Nat, w = m := ⟨w.toNat, by omega⟩
        simp only [Int.toNat_natCast] at *
        have hw : w' ≤ 64 := by omega
        refine ⟨?_, by rw [parts_length]⟩
        rw [pack_ok hw (parts_fit hw)]
        have hlt : Num.val b < 2 ^ (n' * w') := by omega
        have hlen : size n' w' = b.length := by omega
        unfold packed
        rw [parts_length, cat_parts hw, Nat.mod_eq_of_lt hlt, hlen, Num.le_val]
/-- Are there numbers, or which error? -/
theorem unpack_cases (b : List UInt8) (n w : Int) : (∃ l, unpack b n w = (l, 0)) ∨ ∃ e, unpack b n w = ([], e) ∧ e ≠ 0 := by
  unfold unpack
  split
  · exact .inr ⟨1, rfl, by omega⟩
  · split
    · exact .inr ⟨3, rfl, by omega⟩
    · split
      · exact .inr ⟨2, rfl, by omega⟩
      · exact .inl ⟨_, rfl⟩
theorem unpack_len (b : List UInt8) (n w : Int) : (unpack b n w).1.length ≤ 4096 := by
  unfold unpack
  split
  · simp
  · split
    · simp
    · split
      · simp
      · simp only [parts_length]
        omega
end Go.Proofs.Ytcknijkjacgnkaa.Bits
