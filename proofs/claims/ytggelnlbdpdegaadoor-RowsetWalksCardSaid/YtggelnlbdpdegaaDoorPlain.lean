/- The shift register of CRC-32C on natural numbers: plain arithmetic, no program. It is linear, it is undone step by step, and half a byte may be shifted out by a table. -/
namespace Go.Proofs.YtggelnlbdpdegaaDoor.Plain

/-- one shift of the register -/
def step (x : Nat) : Nat := if x % 2 = 1 then x / 2 ^^^ 2197175160 else x / 2
def steps : Nat → Nat → Nat
  | 0, x => x
  | n + 1, x => steps n (step x)
/-- the register takes a byte -/
def eat (r : Nat) (b : UInt8) : Nat := steps 8 (r ^^^ b.toNat)
def runs (r : Nat) (l : List UInt8) : Nat := l.foldl eat r
def full : Nat := 4294967295
def more (c : Nat) (l : List UInt8) : Nat := full - runs (full - c) l
def sum (l : List UInt8) : Nat := full - runs full l

theorem step_lt {x : Nat} (h : x < 4294967296) : step x < 4294967296 := by
  unfold step
  split
  · exact Nat.xor_lt_two_pow (n := 32) (by omega) (by omega)
  · omega
theorem steps_lt {x : Nat} (h : x < 4294967296) : ∀ n, steps n x < 4294967296 := by
  intro n
  induction n generalizing x with
  | zero => exact h
  | succ n ih => exact ih (step_lt h)
theorem byte_lt (b : UInt8) : b.toNat < 256 := b.toNat_lt
theorem eat_lt {r : Nat} (h : r < 4294967296) (b : UInt8) : eat r b < 4294967296 := by
  have := byte_lt b
  exact steps_lt (Nat.xor_lt_two_pow (n := 32) (by omega) (by omega)) 8
theorem runs_lt {r : Nat} (h : r < 4294967296) (l : List UInt8) : runs r l < 4294967296 := by
  induction l generalizing r with
  | nil => exact h
  | cons b l ih => exact ih (eat_lt h b)
theorem runs_append (r : Nat) (a b : List UInt8) : runs r (a ++ b) = runs (runs r a) b := by simp [runs]
theorem runs_snoc (r : Nat) (a : List UInt8) (b : UInt8) : runs r (a ++ [b]) = eat (runs r a) b := by simp [runs]
theorem more_lt (c : Nat) (l : List UInt8) : more c l < 4294967296 := by unfold more full; omega
theorem sum_lt (l : List UInt8) : sum l < 4294967296 := by unfold sum full; omega
theorem more_zero (l : List UInt8) : more 0 l = sum l := rfl
theorem full_back {x : Nat} (h : x < 4294967296) : full - (full - x) = x := by unfold full; omega
theorem more_more {c : Nat} (a b : List UInt8) : more (more c a) b = more c (a ++ b) := by
  unfold more
  rw [full_back (runs_lt (by unfold full; omega) a), runs_append]
theorem more_sum (a b : List UInt8) : more (sum a) b = sum (a ++ b) := more_more (c := 0) a b

/-- linear -/
theorem step_xor (x y : Nat) : step (x ^^^ y) = step x ^^^ step y := by
  have hd : (x ^^^ y) / 2 = x / 2 ^^^ y / 2 := Nat.xor_div_two_pow (n := 1)
  have hm : (x ^^^ y) % 2 = (x % 2) ^^^ (y % 2) := Nat.xor_mod_two_pow (n := 1)
  unfold step
  rw [hd, hm]
  rcases Nat.mod_two_eq_zero_or_one x with hx | hx <;> rcases Nat.mod_two_eq_zero_or_one y with hy | hy
  · simp [hx, hy]
  · simp [hx, hy, Nat.xor_assoc]
  · simp only [hx, hy]
    rw [if_pos (by decide), if_pos trivial, if_neg (by decide), Nat.xor_assoc, Nat.xor_assoc, Nat.xor_comm (y / 2)]
  · simp only [hx, hy]
    rw [if_neg (by decide), if_pos trivial, if_pos trivial]
    rw [Nat.xor_assoc, ← Nat.xor_assoc 2197175160, Nat.xor_comm 2197175160 (y / 2), Nat.xor_assoc (y / 2), Nat.xor_self, Nat.xor_zero]
theorem steps_xor (n x y : Nat) : steps n (x ^^^ y) = steps n x ^^^ steps n y := by
  induction n generalizing x y with
  | zero => rfl
  | succ n ih => simp only [steps, step_xor, ih]
theorem step_zero : step 0 = 0 := rfl
theorem steps_zero (n : Nat) : steps n 0 = 0 := by
  induction n with
  | zero => rfl
  | succ n ih => exact ih
theorem steps_add (n m x : Nat) : steps (n + m) x = steps m (steps n x) := by
  induction n generalizing x with
  | zero => simp [steps]
  | succ n ih => rw [Nat.succ_add]; exact ih _

theorem steps_succ (n x : Nat) : steps (n + 1) x = step (steps n x) := by
  rw [steps_add n 1]
  rfl

/-- the table of four shifts -/
def tab : List Nat := [0, 274646895, 549293790, 820201905, 1098587580, 1361435347, 1640403810, 1905808397, 2197175160, 2460548119, 2722870694, 2987750089, 3280807620, 3553878443, 3811616794, 4084100981]
theorem tab_lt (i : Nat) : tab.getD i 0 < 4294967296 := by
  by_cases h : i < 16
  · have : ∀ i : Fin 16, tab.getD i.val 0 < 4294967296 := by decide
    exact this ⟨i, h⟩
  · have : tab[i]? = none := List.getElem?_eq_none (by simp [tab]; omega)
    rw [List.getD_eq_getElem?_getD, this]; exact Nat.zero_lt_succ _
theorem tab_steps (i : Nat) (h : i < 16) : tab.getD i 0 = steps 4 i := by
  have : ∀ i : Fin 16, tab.getD i.val 0 = steps 4 i.val := by decide
  exact this ⟨i, h⟩
theorem split16 (x : Nat) : (x / 16 * 16) ^^^ (x % 16) = x := by
  have hd : ((x / 16 * 16) ^^^ (x % 16)) / 16 = (x / 16 * 16) / 16 ^^^ (x % 16) / 16 := Nat.xor_div_two_pow (n := 4)
  have hm : ((x / 16 * 16) ^^^ (x % 16)) % 16 = (x / 16 * 16) % 16 ^^^ (x % 16) % 16 := Nat.xor_mod_two_pow (n := 4)
  rw [Nat.mul_div_cancel _ (by omega), Nat.div_eq_of_lt (Nat.mod_lt x (by omega)), Nat.xor_zero] at hd
  rw [Nat.mul_mod_left, Nat.mod_mod, Nat.zero_xor] at hm
  omega
theorem step_even (x : Nat) : step (x * 2) = x := by
  unfold step
  rw [if_neg (by omega)]
  omega
theorem steps_mul (n x : Nat) : steps n (x * 2 ^ n) = x := by
  induction n generalizing x with
  | zero => simp [steps]
  | succ n ih =>
    rw [Nat.pow_succ, ← Nat.mul_assoc]
    show steps n (step _) = x
    rw [step_even]
    exact ih x
theorem nibble (x : Nat) : x / 16 ^^^ tab.getD (x % 16) 0 = steps 4 x := by
  have h := steps_xor 4 (x / 16 * 16) (x % 16)
  rw [split16] at h
  rw [h, tab_steps _ (Nat.mod_lt x (by omega))]
  exact congrArg (· ^^^ steps 4 (x % 16)) (steps_mul 4 (x / 16)).symm
theorem nibbles (x : Nat) : steps 4 x / 16 ^^^ tab.getD (steps 4 x % 16) 0 = steps 8 x := by
  rw [nibble, ← steps_add]

/-- undone: only nothing is shifted to nothing -/
theorem step_eq_zero {x : Nat} (h : x < 4294967296) (hs : step x = 0) : x = 0 := by
  unfold step at hs
  split at hs
  · have h2 : x / 2 = 2197175160 := by
      have := congrArg (· ^^^ 2197175160) hs
      simp only [Nat.xor_assoc, Nat.xor_self, Nat.xor_zero, Nat.zero_xor] at this
      exact this
    omega
  · omega
theorem steps_eq_zero {x : Nat} (h : x < 4294967296) : ∀ n, steps n x = 0 → x = 0 := by
  intro n
  induction n generalizing x with
  | zero => exact id
  | succ n ih => exact fun hs => step_eq_zero h (ih (step_lt h) hs)
end Go.Proofs.YtggelnlbdpdegaaDoor.Plain
