/- Texts of several layers, one behind the other: Plain Num Bits BitsMore Pfor PforList Words Draws Blk Row LawB NumsB IntsB Own Fits Len64 EncSize Fold Put RefNum Copy BytesEq LawIn Cuts Take RefTake CutFrom NumsZ. -/
import Derived.Lib.BitFns
import Derived.Test.YtgjopffdgdimlaaProg
import Derived.WalkKit
import Derived.Deep.AppendLies
import Derived.Deep.Draws
import Derived.Maps.AppendAt
import Derived.Lib.Hide
import Derived.OwnWalk
import Derived.KernelRfl
import Derived.Laws.OwnMore
import Derived.Test.YtgjopffdgdimlaaRows
import Derived.ProofKit
import Derived.OpenShut
import Derived.ChangeOld
import Derived.SizedLaws
import Derived.Deep.DeepHandedRow
import Derived.Lib.LaidTab
import Derived.Deep.OwnRows
import Derived.Deep.QuietTactic
import Derived.BigQuiet
import Derived.RegionTactic
import Derived.ChangeAlike
import Derived.WalkSpells
import Derived.WalkLawsBesides
import Derived.Laws.IdiomStrings
import Derived.Lib.BufferRead
import Derived.Laws.Slices
import Derived.Laws.BitsAllLaws
/- The shift register of CRC-32C on natural numbers: plain arithmetic, no program. It is linear, it is undone step by step, and half a byte may be shifted out by a table. -/
namespace Go.Proofs.Ytgjopffdgdimlaa.Plain

/-- one shift of the register -/
def step (x : Nat) : Nat := if x % 2 = 1 then x / 2 ^^^ 2197175160 else x / 2
def steps : Nat → Nat → Nat
  | 0, x => x
  | n + 1, x => steps n (step x)
/-- the register takes a byte -/
def eat (r : Nat) (b : UInt8) : Nat := steps 8 (r ^^^ b.toNat)
def runs (r : Nat) (l : List UInt8) : Nat := l.foldl eat r
def full : Nat := 4294967295
def more (c : Nat) (l : List UInt8) : Nat := full - runs (full - c) l
def sum (l : List UInt8) : Nat := full - runs full l

theorem step_lt {x : Nat} (h : x < 4294967296) : step x < 4294967296 := by
  unfold step
  split
  · exact Nat.xor_lt_two_pow (n := 32) (by omega) (by omega)
  · omega
theorem steps_lt {x : Nat} (h : x < 4294967296) : ∀ n, steps n x < 4294967296 := by
  intro n
  induction n generalizing x with
  | zero => exact h
  | succ n ih => exact ih (step_lt h)
theorem byte_lt (b : UInt8) : b.toNat < 256 := b.toNat_lt
theorem eat_lt {r : Nat} (h : r < 4294967296) (b : UInt8) : eat r b < 4294967296 := by
  have := byte_lt b
  exact steps_lt (Nat.xor_lt_two_pow (n := 32) (by omega) (by omega)) 8
theorem runs_lt {r : Nat} (h : r < 4294967296) (l : List UInt8) : runs r l < 4294967296 := by
  induction l generalizing r with
  | nil => exact h
  | cons b l ih => exact ih (eat_lt h b)
theorem runs_append (r : Nat) (a b : List UInt8) : runs r (a ++ b) = runs (runs r a) b := by simp [runs]
theorem runs_snoc (r : Nat) (a : List UInt8) (b : UInt8) : runs r (a ++ [b]) = eat (runs r a) b := by simp [runs]
theorem more_lt (c : Nat) (l : List UInt8) : more c l < 4294967296 := by unfold more full; omega
theorem sum_lt (l : List UInt8) : sum l < 4294967296 := by unfold sum full; omega
theorem more_zero (l : List UInt8) : more 0 l = sum l := rfl
theorem full_back {x : Nat} (h : x < 4294967296) : full - (full - x) = x := by unfold full; omega
theorem more_more {c : Nat} (a b : List UInt8) : more (more c a) b = more c (a ++ b) := by
  unfold more
  rw [full_back (runs_lt (by unfold full; omega) a), runs_append]
theorem more_sum (a b : List UInt8) : more (sum a) b = sum (a ++ b) := more_more (c := 0) a b

/-- linear -/
theorem step_xor (x y : Nat) : step (x ^^^ y) = step x ^^^ step y := by
  have hd : (x ^^^ y) / 2 = x / 2 ^^^ y / 2 := Nat.xor_div_two_pow (n := 1)
  have hm : (x ^^^ y) % 2 = (x % 2) ^^^ (y % 2) := Nat.xor_mod_two_pow (n := 1)
  unfold step
  rw [hd, hm]
  rcases Nat.mod_two_eq_zero_or_one x with hx | hx <;> rcases Nat.mod_two_eq_zero_or_one y with hy | hy
  · simp [hx, hy]
  · simp [hx, hy, Nat.xor_assoc]
  · simp only [hx, hy]
    rw [if_pos (by decide), if_pos trivial, if_neg (by decide), Nat.xor_assoc, Nat.xor_assoc, Nat.xor_comm (y / 2)]
  · simp only [hx, hy]
    rw [if_neg (by decide), if_pos trivial, if_pos trivial]
    rw [Nat.xor_assoc, ← Nat.xor_assoc 2197175160, Nat.xor_comm 2197175160 (y / 2), Nat.xor_assoc (y / 2), Nat.xor_self, Nat.xor_zero]
theorem steps_xor (n x y : Nat) : steps n (x ^^^ y) = steps n x ^^^ steps n y := by
  induction n generalizing x y with
  | zero => rfl
  | succ n ih => simp only [steps, step_xor, ih]
theorem step_zero : step 0 = 0 := rfl
theorem steps_zero (n : Nat) : steps n 0 = 0 := by
  induction n with
  | zero => rfl
  | succ n ih => exact ih
theorem steps_add (n m x : Nat) : steps (n + m) x = steps m (steps n x) := by
  induction n generalizing x with
  | zero => simp [steps]
  | succ n ih => rw [Nat.succ_add]; exact ih _

theorem steps_succ (n x : Nat) : steps (n + 1) x = step (steps n x) := by
  rw [steps_add n 1]
  rfl

/-- the table of four shifts -/
def tab : List Nat := [0, 274646895, 549293790, 820201905, 1098587580, 1361435347, 1640403810, 1905808397, 2197175160, 2460548119, 2722870694, 2987750089, 3280807620, 3553878443, 3811616794, 4084100981]
theorem tab_lt (i : Nat) : tab.getD i 0 < 4294967296 := by
  by_cases h : i < 16
  · have : ∀ i : Fin 16, tab.getD i.val 0 < 4294967296 := by decide
    exact this ⟨i, h⟩
  · have : tab[i]? = none := List.getElem?_eq_none (by simp [tab]; omega)
    rw [List.getD_eq_getElem?_getD, this]; exact Nat.zero_lt_succ _
theorem tab_steps (i : Nat) (h : i < 16) : tab.getD i 0 = steps 4 i := by
  have : ∀ i : Fin 16, tab.getD i.val 0 = steps 4 i.val := by decide
  exact this ⟨i, h⟩
theorem split16 (x : Nat) : (x / 16 * 16) ^^^ (x % 16) = x := by
  have hd : ((x / 16 * 16) ^^^ (x % 16)) / 16 = (x / 16 * 16) / 16 ^^^ (x % 16) / 16 := Nat.xor_div_two_pow (n := 4)
  have hm : ((x / 16 * 16) ^^^ (x % 16)) % 16 = (x / 16 * 16) % 16 ^^^ (x % 16) % 16 := Nat.xor_mod_two_pow (n := 4)
  rw [Nat.mul_div_cancel _ (by omega), Nat.div_eq_of_lt (Nat.mod_lt x (by omega)), Nat.xor_zero] at hd
  rw [Nat.mul_mod_left, Nat.mod_mod, Nat.zero_xor] at hm
  omega
theorem step_even (x : Nat) : step (x * 2) = x := by
  unfold step
  rw [if_neg (by omega)]
  omega
theorem steps_mul (n x : Nat) : steps n (x * 2 ^ n) = x := by
  induction n generalizing x with
  | zero => simp [steps]
  | succ n ih =>
    rw [Nat.pow_succ, ← Nat.mul_assoc]
    show steps n (step _) = x
    rw [step_even]
    exact ih x
theorem nibble (x : Nat) : x / 16 ^^^ tab.getD (x % 16) 0 = steps 4 x := by
  have h := steps_xor 4 (x / 16 * 16) (x % 16)
  rw [split16] at h
  rw [h, tab_steps _ (Nat.mod_lt x (by omega))]
  exact congrArg (· ^^^ steps 4 (x % 16)) (steps_mul 4 (x / 16)).symm
theorem nibbles (x : Nat) : steps 4 x / 16 ^^^ tab.getD (steps 4 x % 16) 0 = steps 8 x := by
  rw [nibble, ← steps_add]

/-- undone: only nothing is shifted to nothing -/
theorem step_eq_zero {x : Nat} (h : x < 4294967296) (hs : step x = 0) : x = 0 := by
  unfold step at hs
  split at hs
  · have h2 : x / 2 = 2197175160 := by
      have := congrArg (· ^^^ 2197175160) hs
      simp only [Nat.xor_assoc, Nat.xor_self, Nat.xor_zero, Nat.zero_xor] at this
      exact this
    omega
  · omega
theorem steps_eq_zero {x : Nat} (h : x < 4294967296) : ∀ n, steps n x = 0 → x = 0 := by
  intro n
  induction n generalizing x with
  | zero => exact id
  | succ n ih => exact fun hs => step_eq_zero h (ih (step_lt h) hs)
end Go.Proofs.Ytgjopffdgdimlaa.Plain

/- Numbers as bytes, on natural numbers: plain arithmetic, no program. -/
namespace Go.Proofs.Ytgjopffdgdimlaa.Num

/-- how many bytes hold v -/
def width (v : Nat) : Nat := (Lib.bitLen v + 7) / 8
/-- k bytes of v, the lowest first -/
def le : Nat → Nat → List UInt8
  | 0, _ => []
  | k + 1, v => UInt8.ofNat v :: le k (v / 256)
/-- what bytes come to, the lowest first -/
def val : List UInt8 → Nat
  | [] => 0
  | b :: r => b.toNat + 256 * val r
/-- a number's encoding -/
def num (v : Nat) : List UInt8 := if v ≤ 247 then [UInt8.ofNat v] else UInt8.ofNat (247 + width v) :: le (width v) v
/-- how many bytes it has -/
def size (v : Nat) : Nat := if v ≤ 247 then 1 else 1 + width v
/-- the number that bytes begin with: it, its size, its error -/
def take : List UInt8 → Nat × Nat × Nat
  | [] => (0, 0, 3)
  | b :: r => if b.toNat ≤ 247 then (b.toNat, 1, 0) else if r.length < b.toNat - 247 then (0, 0, 3)
    else if size (val (r.take (b.toNat - 247))) = 1 + (b.toNat - 247) then (val (r.take (b.toNat - 247)), 1 + (b.toNat - 247), 0) else (0, 0, 2)

theorem take_cons (b : UInt8) (r : List UInt8) : take (b :: r) = if b.toNat ≤ 247 then (b.toNat, 1, 0) else if r.length < b.toNat - 247 then (0, 0, 3)
    else if size (val (r.take (b.toNat - 247))) = 1 + (b.toNat - 247) then (val (r.take (b.toNat - 247)), 1 + (b.toNat - 247), 0) else (0, 0, 2) := rfl
theorem byte_lt (b : UInt8) : b.toNat < 256 := b.toNat_lt
theorem ofNat_toNat (b : UInt8) : UInt8.ofNat b.toNat = b := by simp
theorem toNat_ofNat (x : Nat) : (UInt8.ofNat x).toNat = x % 256 := UInt8.toNat_ofNat'

theorem bitLen_pos {v : Nat} (h : 0 < v) (hv : v < 18446744073709551616) : 1 ≤ Lib.bitLen v := by
  rw [Lib.bitLen_half v (by omega) hv]; omega
theorem bitLen_zero : Lib.bitLen 0 = 0 := by decide
theorem width_zero : width 0 = 0 := by decide
theorem width_step {v : Nat} (h : 0 < v) (hv : v < 18446744073709551616) : width v = width (v / 256) + 1 := by
  unfold width
  rcases Nat.lt_or_ge v 256 with hlt | hge
  · have h1 := bitLen_pos h hv
    have h8 := Lib.bitLen_le8 ⟨v, hlt⟩
    simp only at h8
    rw [Nat.div_eq_of_lt hlt, bitLen_zero]
    omega
  · rw [Lib.bitLen_shift8 v hge hv]
    omega
theorem width_le {v k : Nat} (hk : k ≤ 8) (h : v < 256 ^ k) : width v ≤ k := by
  have h2 : v < 2 ^ (8 * k) := by rw [Nat.pow_mul]; exact h
  have := Lib.bitLen_le v (8 * k) (by omega) h2
  unfold width
  omega
theorem width_le8 {v : Nat} (h : v < 18446744073709551616) : width v ≤ 8 := width_le (Nat.le_refl _) h
theorem width_pos {v : Nat} (h : 0 < v) (hv : v < 18446744073709551616) : 1 ≤ width v := by rw [width_step h hv]; omega
theorem width_of {v : Nat} : ∀ (k : Nat), k ≤ 8 → 256 ^ k ≤ v → v < 256 ^ (k + 1) → v < 18446744073709551616 → width v = k + 1 := by
  intro k
  induction k generalizing v with
  | zero =>
    intro _ h1 h2 h3
    rw [width_step (by omega) h3, Nat.div_eq_of_lt (by simpa using h2), width_zero]
  | succ k ih =>
    intro hk h1 h2 h3
    have hp : 0 < 256 ^ k := Nat.pow_pos (by omega)
    rw [Nat.pow_succ] at h1 h2
    rw [width_step (by omega) h3, ih (by omega) (by omega) (by omega) (by omega)]
theorem lt_width {v : Nat} (hv : v < 18446744073709551616) : v < 256 ^ width v := by
  induction v using Nat.strongRecOn with
  | ind v ih =>
    rcases Nat.eq_zero_or_pos v with h0 | h0
    · subst h0; rw [width_zero]; decide
    · rw [width_step h0 hv, Nat.pow_succ]
      have := ih (v / 256) (by omega) (by omega)
      omega

theorem le_length (k v : Nat) : (le k v).length = k := by
  induction k generalizing v with
  | zero => rfl
  | succ k ih => simp [le, ih]
theorem le_snoc (k v : Nat) : le (k + 1) v = le k v ++ [UInt8.ofNat (v / 256 ^ k)] := by
  induction k generalizing v with
  | zero => simp [le]
  | succ k ih =>
    rw [le, ih, le, List.cons_append, Nat.div_div_eq_div_mul, Nat.pow_succ, Nat.mul_comm 256]
theorem val_lt (l : List UInt8) : val l < 256 ^ l.length := by
  induction l with
  | nil => decide
  | cons b r ih =>
    have := byte_lt b
    rw [val, List.length_cons, Nat.pow_succ]
    omega
theorem val_le {k v : Nat} (h : v < 256 ^ k) : val (le k v) = v := by
  induction k generalizing v with
  | zero => simp at h; subst h; rfl
  | succ k ih =>
    rw [Nat.pow_succ] at h
    rw [le, val, ih (by omega), toNat_ofNat]
    omega
theorem le_val (l : List UInt8) : le l.length (val l) = l := by
  induction l with
  | nil => rfl
  | cons b r ih =>
    have hb := byte_lt b
    rw [List.length_cons, le, val, show (b.toNat + 256 * val r) / 256 = val r from by omega, ih]
    congr 1
    apply UInt8.toNat_inj.1
    rw [toNat_ofNat]
    omega
theorem val_snoc (l : List UInt8) (b : UInt8) : val (l ++ [b]) = val l + b.toNat * 256 ^ l.length := by
  induction l with
  | nil => simp [val]
  | cons c r ih =>
    rw [List.cons_append, val, ih, val, List.length_cons, Nat.pow_succ, Nat.mul_add, ← Nat.mul_assoc, Nat.mul_comm 256 b.toNat, Nat.mul_assoc, Nat.mul_comm 256 (256 ^ r.length)]
    omega

theorem size_pos (v : Nat) : 1 ≤ size v := by unfold size; split <;> omega
theorem size_le9 {v : Nat} (h : v < 18446744073709551616) : size v ≤ 9 := by
  have := width_le8 h
  unfold size; split <;> omega
theorem num_length (v : Nat) : (num v).length = size v := by
  unfold num size
  split
  · rfl
  · simp [le_length]; omega

/-- what is put is taken, whatever stands behind -/
theorem take_num {v : Nat} (hv : v < 18446744073709551616) (t : List UInt8) : take (num v ++ t) = (v, size v, 0) := by
  unfold num size
  split
  · rename_i h
    simp only [List.cons_append, List.nil_append, take, toNat_ofNat]
    rw [Nat.mod_eq_of_lt (by omega), if_pos h]
  · rename_i h
    have h8 := width_le8 hv
    have h1 := width_pos (by omega) hv
    have hb : (UInt8.ofNat (247 + width v)).toNat = 247 + width v := by rw [toNat_ofNat]; omega
    have htake : (le (width v) v ++ t).take (width v) = le (width v) v := List.take_left' (le_length _ _)
    simp only [List.cons_append, take, hb]
    rw [if_neg (by omega), if_neg (by rw [List.length_append, le_length]; omega), show 247 + width v - 247 = width v from by omega, htake, val_le (lt_width hv)]
    have : size v = 1 + width v := by unfold size; rw [if_neg h]
    rw [if_pos this]

/-- what is taken, put again, are the same bytes -/
theorem num_take {l : List UInt8} {v s : Nat} (h : take l = (v, s, 0)) : num v = l.take s ∧ s = size v ∧ s ≤ l.length ∧ v < 18446744073709551616 := by
  cases l with
  | nil => simp [take] at h
  | cons b r =>
    have hb := byte_lt b
    rw [take_cons] at h
    split at h
    · rename_i h1
      simp only [Prod.mk.injEq, and_true] at h
      obtain ⟨rfl, rfl⟩ := h
      refine ⟨?_, ?_, by simp, by omega⟩
      · unfold num; rw [if_pos h1, ofNat_toNat]; rfl
      · unfold size; rw [if_pos h1]
    · rename_i h1
      split at h
      · simp at h
      · rename_i h2
        split at h
        · rename_i h3
          simp only [Prod.mk.injEq, and_true] at h
          obtain ⟨rfl, rfl⟩ := h
          have hlen : (r.take (b.toNat - 247)).length = b.toNat - 247 := by simp; omega
          have hvl := val_lt (r.take (b.toNat - 247))
          rw [hlen] at hvl
          have hv : val (r.take (b.toNat - 247)) < 18446744073709551616 := Nat.lt_of_lt_of_le hvl (Nat.le_trans (Nat.pow_le_pow_right (by omega) (show b.toNat - 247 ≤ 8 by omega)) (by decide))
          have hnot : ¬ val (r.take (b.toNat - 247)) ≤ 247 := fun hle => by
            unfold size at h3; rw [if_pos hle] at h3; omega
          have hw : width (val (r.take (b.toNat - 247))) = b.toNat - 247 := by
            unfold size at h3; rw [if_neg hnot] at h3; omega
          refine ⟨?_, h3.symm, by simp; omega, hv⟩
          unfold num
          rw [if_neg hnot, hw, show 247 + (b.toNat - 247) = b.toNat from by omega, ofNat_toNat, Nat.add_comm 1, List.take_succ_cons]
          have e := le_val (r.take (b.toNat - 247))
          rw [hlen] at e
          exact congrArg (b :: ·) e
        · simp at h

/-- Is a number taken, or which error? -/
theorem take_cases (l : List UInt8) : (∃ v s, take l = (v, s, 0)) ∨ ∃ e, take l = (0, 0, e) ∧ (e = 3 ∨ e = 2) := by
  cases l with
  | nil => exact .inr ⟨3, rfl, .inl rfl⟩
  | cons b r =>
    rw [take_cons]
    split
    · exact .inl ⟨_, _, rfl⟩
    · split
      · exact .inr ⟨3, rfl, .inl rfl⟩
      · split
        · exact .inl ⟨_, _, rfl⟩
        · exact .inr ⟨2, rfl, .inr rfl⟩

/-- an integer, folded -/
def fold (n : Int) : Nat := if 0 ≤ n then (2 * n).toNat else (-2 * n - 1).toNat
/-- a number, unfolded -/
def unfold (v : Nat) : Int := if v % 2 = 0 then ((v / 2 : Nat) : Int) else -((v / 2 : Nat) : Int) - 1
theorem unfold_fold (n : Int) : unfold (fold n) = n := by
  unfold fold Num.unfold
  split <;> split <;> omega
theorem fold_unfold (v : Nat) : fold (unfold v) = v := by
  unfold fold Num.unfold
  split <;> split <;> omega
theorem fold_lt {n : Int} (h0 : -9223372036854775808 ≤ n) (h1 : n ≤ 9223372036854775807) : fold n < 18446744073709551616 := by
  unfold fold
  split <;> omega
theorem unfold_fits {v : Nat} (h : v < 18446744073709551616) : -9223372036854775808 ≤ unfold v ∧ unfold v ≤ 9223372036854775807 := by
  unfold Num.unfold
  split <;> omega
end Go.Proofs.Ytgjopffdgdimlaa.Num

/- Numbers of few bits side by side, on natural numbers: plain arithmetic, no program. A list of numbers by a width is ONE number, lowest first; packed it is that number's bytes. -/
namespace Go.Proofs.Ytgjopffdgdimlaa.Bits

/-- numbers side by side, as one number -/
def cat (w : Nat) : List UInt64 → Nat
  | [] => 0
  | x :: r => x.toNat + 2 ^ w * cat w r
/-- how many bytes n numbers have -/
def size (n w : Nat) : Nat := (n * w + 7) / 8
/-- are all below 2^w? -/
def Fit (w : Nat) (l : List UInt64) : Prop := ∀ x ∈ l, x.toNat < 2 ^ w
/-- n numbers of the width w out of one -/
def parts (n w N : Nat) : List UInt64 := (List.range n).map fun i => UInt64.ofNat (N / 2 ^ (i * w) % 2 ^ w)
/-- the bytes of packed numbers -/
def packed (w : Nat) (l : List UInt64) : List UInt8 := Num.le (size l.length w) (cat w l)

theorem u64_lt (x : UInt64) : x.toNat < 18446744073709551616 := x.toNat_lt
theorem u64_ofNat (x : UInt64) : UInt64.ofNat x.toNat = x := by simp
theorem toNat_ofNat {n : Nat} (h : n < 18446744073709551616) : (UInt64.ofNat n).toNat = n := by
  rw [UInt64.toNat_ofNat']
  omega
theorem pow_pos (k : Nat) : 0 < 2 ^ k := Nat.two_pow_pos k
theorem pow_le64 {w : Nat} (hw : w ≤ 64) : (2 : Nat) ^ w ≤ 18446744073709551616 := Nat.le_trans (Nat.pow_le_pow_right (by omega) hw) (by decide)
theorem pow256 (k : Nat) : (256 : Nat) ^ k = 2 ^ (8 * k) := by rw [Nat.pow_mul]

theorem Fit.nil (w : Nat) : Fit w [] := fun _ h => by cases h
theorem Fit.head {w : Nat} {x : UInt64} {r : List UInt64} (h : Fit w (x :: r)) : x.toNat < 2 ^ w := h x (List.mem_cons_self ..)
theorem Fit.tail {w : Nat} {x : UInt64} {r : List UInt64} (h : Fit w (x :: r)) : Fit w r := fun y hy => h y (List.mem_cons_of_mem _ hy)
theorem Fit.get {w : Nat} {l : List UInt64} (h : Fit w l) {i : Nat} (hi : i < l.length) : l[i].toNat < 2 ^ w := h _ (List.getElem_mem hi)
theorem Fit.take {w : Nat} {l : List UInt64} (h : Fit w l) (k : Nat) : Fit w (l.take k) := fun x hx => h x (List.mem_of_mem_take hx)

theorem cat_lt {w : Nat} {l : List UInt64} (h : Fit w l) : cat w l < 2 ^ (l.length * w) := by
  induction l with
  | nil => simp [cat]
  | cons x r ih =>
    have h1 := h.head
    have h2 := ih h.tail
    rw [cat, List.length_cons, Nat.succ_mul, Nat.add_comm (r.length * w), Nat.pow_add]
    have h3 : 2 ^ w * (cat w r + 1) ≤ 2 ^ w * 2 ^ (r.length * w) := Nat.mul_le_mul_left _ h2
    rw [Nat.mul_add] at h3
    omega
theorem cat_snoc (w : Nat) (l : List UInt64) (x : UInt64) : cat w (l ++ [x]) = cat w l + 2 ^ (l.length * w) * x.toNat := by
  induction l with
  | nil => simp [cat]
  | cons y r ih =>
    rw [List.cons_append, cat, ih, cat, List.length_cons, Nat.succ_mul, Nat.add_comm (r.length * w), Nat.pow_add, Nat.mul_add, Nat.mul_assoc]
    omega
theorem cat_append (w : Nat) (a b : List UInt64) : cat w (a ++ b) = cat w a + 2 ^ (a.length * w) * cat w b := by
  induction a with
  | nil => simp [cat]
  | cons y r ih =>
    rw [List.cons_append, cat, ih, cat, List.length_cons, Nat.succ_mul, Nat.add_comm (r.length * w), Nat.pow_add, Nat.mul_add, Nat.mul_assoc]
    omega
/-- the numbers again -/
theorem cat_part {w : Nat} {l : List UInt64} (h : Fit w l) {i : Nat} (hi : i < l.length) : cat w l / 2 ^ (i * w) % 2 ^ w = l[i].toNat := by
  induction l generalizing i with
  | nil => simp at hi
  | cons x r ih =>
    have h1 := h.head
    cases i with
    | zero =>
      rw [Nat.zero_mul, Nat.pow_zero, Nat.div_one, cat, Nat.add_mul_mod_self_left, Nat.mod_eq_of_lt h1]
      rfl
    | succ i =>
      rw [Nat.succ_mul, Nat.add_comm (i * w), Nat.pow_add, ← Nat.div_div_eq_div_mul, cat, Nat.add_mul_div_left _ _ (pow_pos w), Nat.div_eq_of_lt h1, Nat.zero_add]
      exact ih h.tail (by simpa using hi)
theorem parts_length (n w N : Nat) : (parts n w N).length = n := by simp [parts]
theorem parts_get {n w N i : Nat} (hw : w ≤ 64) (hi : i < (parts n w N).length) : (parts n w N)[i].toNat = N / 2 ^ (i * w) % 2 ^ w := by
  have hp := pow_le64 hw
  have : N / 2 ^ (i * w) % 2 ^ w < 2 ^ w := Nat.mod_lt _ (pow_pos w)
  simp only [parts, List.getElem_map, List.getElem_range]
  exact toNat_ofNat (by omega)
theorem parts_fit {n w N : Nat} (hw : w ≤ 64) : Fit w (parts n w N) := fun x hx => by
  obtain ⟨i, hi, rfl⟩ := List.getElem_of_mem hx
  rw [parts_get hw hi]
  exact Nat.mod_lt _ (pow_pos w)
theorem parts_cat {w : Nat} {l : List UInt64} (hw : w ≤ 64) (h : Fit w l) : parts l.length w (cat w l) = l := by
  apply List.ext_getElem (parts_length _ _ _)
  intro i h1 h2
  apply UInt64.toNat_inj.1
  rw [parts_get hw h1, cat_part h h2]
theorem parts_succ (n w N : Nat) : parts (n + 1) w N = parts n w N ++ [UInt64.ofNat (N / 2 ^ (n * w) % 2 ^ w)] := by simp [parts, List.range_succ]
theorem cat_parts {n w N : Nat} (hw : w ≤ 64) : cat w (parts n w N) = N % 2 ^ (n * w) := by
  induction n with
  | zero => simp [parts, cat, Nat.mod_one]
  | succ n ih =>
    have hp := pow_le64 hw
    have hlt : N / 2 ^ (n * w) % 2 ^ w < 2 ^ w := Nat.mod_lt _ (pow_pos w)
    rw [parts_succ, cat_snoc, ih, parts_length, toNat_ofNat (by omega), Nat.succ_mul, Nat.pow_add, Nat.mod_mul]

/-- room for all bits -/
theorem pow_size (n w : Nat) : (2 : Nat) ^ (n * w) ≤ 256 ^ size n w := by
  rw [pow256]
  apply Nat.pow_le_pow_right (by omega)
  unfold size
  omega
theorem packed_length (w : Nat) (l : List UInt64) : (packed w l).length = size l.length w := Num.le_length _ _
theorem val_packed {w : Nat} {l : List UInt64} (h : Fit w l) : Num.val (packed w l) = cat w l := Num.val_le (Nat.lt_of_lt_of_le (cat_lt h) (pow_size _ _))

theorem le_take {k j : Nat} (N : Nat) (h : j ≤ k) : (Num.le k N).take j = Num.le j N := by
  induction j generalizing k N with
  | zero => simp [Num.le]
  | succ j ih =>
    obtain ⟨k, rfl⟩ : ∃ m, k = m + 1 := ⟨k - 1, by omega⟩
    rw [Num.le, List.take_succ_cons, ih _ (by omega), Num.le]
theorem le_mod (j N : Nat) : Num.le j (N % 256 ^ j) = Num.le j N := by
  induction j generalizing N with
  | zero => rfl
  | succ j ih =>
    rw [Num.le, Num.le, ← ih (N / 256)]
    congr 1
    · apply UInt8.toNat_inj.1
      rw [Num.toNat_ofNat, Num.toNat_ofNat, Nat.pow_succ, Nat.mul_comm, Nat.mod_mul_right_mod]
    · rw [Nat.pow_succ, Nat.mul_comm, Nat.mod_mul_right_div_self]

/-- a bit of all bytes is a bit of its byte -/
theorem val_bit {b : List UInt8} {p : Nat} (hp : p / 8 < b.length) : Num.val b / 2 ^ p % 2 = b[p / 8].toNat / 2 ^ (p % 8) % 2 := by
  induction b generalizing p with
  | nil => simp at hp
  | cons x r ih =>
    have hx := Num.byte_lt x
    rcases Nat.lt_or_ge p 8 with h | h
    · have e : p / 8 = 0 := by omega
      have e2 : p % 8 = p := by omega
      simp only [e, e2, List.getElem_cons_zero, Num.val]
      have hm : (256 : Nat) = 2 ^ p * 2 ^ (8 - p) := by rw [← Nat.pow_add, show p + (8 - p) = 8 from by omega]
      rw [hm, Nat.mul_assoc, Nat.add_mul_div_left _ _ (pow_pos p)]
      have h2 : (2 : Nat) ^ (8 - p) = 2 * 2 ^ (7 - p) := by rw [← Nat.pow_succ', show (7 - p).succ = 8 - p from by omega]
      rw [h2, Nat.mul_assoc, Nat.add_mul_mod_self_left]
    · obtain ⟨q, rfl⟩ : ∃ q, p = q + 8 := ⟨p - 8, by omega⟩
      have e : (q + 8) / 8 = q / 8 + 1 := by omega
      have e2 : (q + 8) % 8 = q % 8 := by omega
      simp only [e, e2, List.getElem_cons_succ, Num.val]
      rw [← ih (by simp only [e, List.length_cons] at hp; omega), Nat.add_comm q 8, Nat.pow_add, ← Nat.div_div_eq_div_mul, show (2 : Nat) ^ 8 = 256 from rfl, Nat.add_mul_div_left _ _ (by omega), Nat.div_eq_of_lt hx, Nat.zero_add]
/-- a byte that gets 2^m more -/
theorem val_set {b : List UInt8} {j m : Nat} (hj : j < b.length) (hm : b[j].toNat + 2 ^ m < 256) : Num.val (b.set j (UInt8.ofNat (b[j].toNat + 2 ^ m))) = Num.val b + 2 ^ (8 * j + m) := by
  induction b generalizing j with
  | nil => simp at hj
  | cons x r ih =>
    cases j with
    | zero =>
      simp only [List.getElem_cons_zero] at hm ⊢
      rw [List.set_cons_zero, Num.val, Num.val, Num.toNat_ofNat, Nat.mod_eq_of_lt hm, Nat.mul_zero, Nat.zero_add]
      omega
    | succ j =>
      simp only [List.getElem_cons_succ] at hm ⊢
      rw [List.set_cons_succ, Num.val, ih (by simpa using hj) hm, Num.val, show 8 * (j + 1) + m = 8 + (8 * j + m) from by omega, Nat.pow_add 2 8, Nat.mul_add]
      omega
/-- of bytes that come to less than 2^(8j + m) byte j is below 2^m -/
theorem val_small {b : List UInt8} {j m : Nat} (hj : j < b.length) (h : Num.val b < 2 ^ (8 * j + m)) : b[j].toNat < 2 ^ m := by
  induction b generalizing j with
  | nil => simp at hj
  | cons x r ih =>
    cases j with
    | zero =>
      simp only [List.getElem_cons_zero]
      rw [Num.val, Nat.mul_zero, Nat.zero_add] at h
      omega
    | succ j =>
      simp only [List.getElem_cons_succ]
      apply ih (by simpa using hj)
      rw [Num.val, show 8 * (j + 1) + m = 8 + (8 * j + m) from by omega, Nat.pow_add 2 8] at h
      omega
theorem val_zeros (n : Nat) : Num.val (List.replicate n 0) = 0 := by
  induction n with
  | zero => rfl
  | succ n ih => rw [List.replicate_succ, Num.val, ih]; rfl

/-- What a list begins with, packed, is what the list, packed, begins with, where it ends with a byte. -/
theorem packed_take {w : Nat} {l : List UInt64} {i : Nat} (h : Fit w l) (hi : i ≤ l.length) (h8 : i * w % 8 = 0) : packed w (l.take i) = (packed w l).take (size i w) := by
  have hl : (l.take i).length = i := by rw [List.length_take]; omega
  have hs : 8 * size i w = i * w := by unfold size; omega
  have hle : size i w ≤ size l.length w := by
    have := Nat.mul_le_mul_right w hi
    unfold size
    omega
  have hc : cat w l = cat w (l.take i) + 2 ^ (i * w) * cat w (l.drop i) := by
    conv => lhs; rw [← List.take_append_drop i l]
    rw [cat_append, hl]
  have hlt := cat_lt (h.take i)
  rw [hl] at hlt
  unfold packed
  rw [le_take _ hle, hl, ← le_mod (size i w) (cat w l), pow256, hs, hc, Nat.add_mul_mod_self_left, Nat.mod_eq_of_lt hlt]
end Go.Proofs.Ytgjopffdgdimlaa.Bits

/- More of numbers of few bits, on natural numbers: the width of a list; what a byte gets and gives that holds some bits of a number; what Pack and Unpack answer. -/
namespace Go.Proofs.Ytgjopffdgdimlaa.Bits

/-- every bit that any of the numbers has -/
def orAll (l : List UInt64) : Nat := l.foldl (fun a x => a ||| x.toNat) 0
theorem orAll_snoc (l : List UInt64) (x : UInt64) : orAll (l ++ [x]) = orAll l ||| x.toNat := by simp [orAll]
theorem or_lt_iff {a b w : Nat} : a ||| b < 2 ^ w ↔ a < 2 ^ w ∧ b < 2 ^ w :=
  ⟨fun h => ⟨Nat.lt_of_le_of_lt Nat.left_le_or h, Nat.lt_of_le_of_lt Nat.right_le_or h⟩, fun h => Nat.or_lt_two_pow h.1 h.2⟩
theorem orFold_lt {w : Nat} (l : List UInt64) (a : Nat) : l.foldl (fun a x => a ||| x.toNat) a < 2 ^ w ↔ a < 2 ^ w ∧ Fit w l := by
  induction l generalizing a with
  | nil => exact ⟨fun h => ⟨h, Fit.nil w⟩, fun h => h.1⟩
  | cons x r ih =>
    rw [List.foldl_cons, ih, or_lt_iff]
    constructor
    · rintro ⟨⟨h1, h2⟩, h3⟩
      refine ⟨h1, fun y hy => ?_⟩
      rcases List.mem_cons.1 hy with rfl | hy
      · exact h2
      · exact h3 y hy
    · rintro ⟨h1, h2⟩
      exact ⟨⟨h1, h2.head⟩, h2.tail⟩
theorem orAll_lt_iff {w : Nat} {l : List UInt64} : orAll l < 2 ^ w ↔ Fit w l := by
  unfold orAll
  rw [orFold_lt]
  exact ⟨fun h => h.2, fun h => ⟨pow_pos w, h⟩⟩
theorem fit64 (l : List UInt64) : Fit 64 l := fun x _ => x.toNat_lt
theorem orAll_lt (l : List UInt64) : orAll l < 18446744073709551616 := orAll_lt_iff.2 (fit64 l)
theorem Fit.mono {v w : Nat} {l : List UInt64} (h : Fit v l) (hw : v ≤ w) : Fit w l := fun x hx => Nat.lt_of_lt_of_le (h x hx) (Nat.pow_le_pow_right (by omega) hw)
theorem Fit.snoc {w : Nat} {l : List UInt64} {x : UInt64} (h : Fit w l) (hx : x.toNat < 2 ^ w) : Fit w (l ++ [x]) := fun y hy => by
  rcases List.mem_append.1 hy with hy | hy
  · exact h y hy
  · rw [List.mem_singleton.1 hy]; exact hx

theorem lt_bitLen {v : Nat} (hv : v < 18446744073709551616) : v < 2 ^ Lib.bitLen v := by
  induction v using Nat.strongRecOn with
  | ind v ih =>
    rcases Nat.eq_zero_or_pos v with h0 | h0
    · subst h0; exact pow_pos _
    · rw [Lib.bitLen_half v (by omega) (by omega), Nat.add_comm, Nat.pow_succ]
      have := ih (v / 2) (by omega) (by omega)
      omega
theorem bitLen_le_iff {v w : Nat} (hv : v < 18446744073709551616) (hw : w ≤ 64) : Lib.bitLen v ≤ w ↔ v < 2 ^ w :=
  ⟨fun h => Nat.lt_of_lt_of_le (lt_bitLen hv) (Nat.pow_le_pow_right (by omega) h), fun h => Lib.bitLen_le v w hw h⟩
/-- the least width -/
def width (l : List UInt64) : Nat := Lib.bitLen (orAll l)
theorem width_le64 (l : List UInt64) : width l ≤ 64 := Lib.bitLen_le _ 64 (Nat.le_refl _) (orAll_lt l)
theorem width_le_iff {w : Nat} (l : List UInt64) (hw : w ≤ 64) : width l ≤ w ↔ Fit w l := by
  unfold width
  rw [bitLen_le_iff (orAll_lt l) hw, orAll_lt_iff]
theorem fit_width (l : List UInt64) : Fit (width l) l := (width_le_iff l (width_le64 l)).1 (Nat.le_refl _)
/-- it is the only one that is the least -/
theorem width_unique {l : List UInt64} {w : Nat} (hw : w ≤ 64) (h : Fit w l) (hmin : ∀ k, k < w → ¬ Fit k l) : w = width l := by
  have h1 : width l ≤ w := (width_le_iff l hw).2 h
  rcases Nat.lt_or_ge (width l) w with hlt | hge
  · exact absurd (fit_width l) (hmin _ hlt)
  · omega

/-- a byte whose bits from s on are 0 gets the lowest 8 - s bits of a number -/
theorem put_byte {b v s : Nat} (hs : s < 8) (hb : b < 2 ^ s) : b ||| (v % 256 * 2 ^ s) % 256 = b + (v % 2 ^ (8 - s)) * 2 ^ s := by
  have e : (256 : Nat) = 2 ^ s * 2 ^ (8 - s) := by rw [← Nat.pow_add, show s + (8 - s) = 8 from by omega]
  have h1 : (v % 256 * 2 ^ s) % 256 = (v % 2 ^ (8 - s)) * 2 ^ s := by
    rw [Nat.mul_comm (v % 256)]
    conv => lhs; rhs; rw [e]
    rw [Nat.mul_mod_mul_left, Nat.mul_comm]
    congr 1
    rw [e, Nat.mul_comm (2 ^ s), Nat.mod_mul_right_mod]
  rw [h1, Nat.or_comm, Nat.mul_comm, ← Nat.two_pow_add_eq_or_of_lt hb]
  omega
theorem put_byte_lt {b v s : Nat} (hs : s < 8) (hb : b < 2 ^ s) : b + (v % 2 ^ (8 - s)) * 2 ^ s < 256 := by
  have e : (256 : Nat) = 2 ^ (8 - s) * 2 ^ s := by rw [← Nat.pow_add, show 8 - s + s = 8 from by omega]
  have h1 : v % 2 ^ (8 - s) + 1 ≤ 2 ^ (8 - s) := Nat.mod_lt _ (pow_pos _)
  have h2 := Nat.mul_le_mul_right (2 ^ s) h1
  rw [← e, Nat.add_mul] at h2
  omega
/-- a byte that gets more -/
theorem val_add {b : List UInt8} {j m : Nat} (hj : j < b.length) (hm : b[j].toNat + m < 256) : Num.val (b.set j (UInt8.ofNat (b[j].toNat + m))) = Num.val b + m * 2 ^ (8 * j) := by
  induction b generalizing j with
  | nil => simp at hj
  | cons x r ih =>
    cases j with
    | zero =>
      simp only [List.getElem_cons_zero] at hm ⊢
      rw [List.set_cons_zero, Num.val, Num.val, Num.toNat_ofNat, Nat.mod_eq_of_lt hm, Nat.mul_zero, Nat.pow_zero, Nat.mul_one]
      omega
    | succ j =>
      simp only [List.getElem_cons_succ] at hm ⊢
      rw [List.set_cons_succ, Num.val, ih (by simpa using hj) hm, Num.val, show 8 * (j + 1) = 8 + 8 * j from by omega, Nat.pow_add 2 8, show (2 : Nat) ^ 8 = 256 from rfl, Nat.mul_add, Nat.mul_left_comm m 256]
      omega
/-- ONE STEP of a number into its bytes: byte (8j + s) / 8 gets what it has room for -/
theorem val_put {b : List UInt8} {j s v : Nat} (hj : j < b.length) (hs : s < 8) (hb : Num.val b < 2 ^ (8 * j + s)) :
    Num.val (b.set j (UInt8.ofNat (b[j].toNat ||| (v % 256 * 2 ^ s) % 256))) + (v / 2 ^ (8 - s)) * 2 ^ (8 * j + 8) = Num.val b + v * 2 ^ (8 * j + s) ∧
      Num.val (b.set j (UInt8.ofNat (b[j].toNat ||| (v % 256 * 2 ^ s) % 256))) < 2 ^ (8 * j + 8) := by
  have hbj : b[j].toNat < 2 ^ s := val_small hj hb
  have hlt := put_byte_lt (v := v) hs hbj
  rw [put_byte hs hbj, val_add hj hlt]
  have e8 : (2 : Nat) ^ (8 * j + 8) = 2 ^ (8 - s) * 2 ^ (8 * j + s) := by rw [← Nat.pow_add, show 8 - s + (8 * j + s) = 8 * j + 8 from by omega]
  have es : (v % 2 ^ (8 - s)) * 2 ^ s * 2 ^ (8 * j) = (v % 2 ^ (8 - s)) * 2 ^ (8 * j + s) := by rw [Nat.mul_assoc, ← Nat.pow_add, Nat.add_comm s]
  rw [es, e8]
  have hP := pow_pos (8 * j + s)
  have hv : (v / 2 ^ (8 - s)) * (2 ^ (8 - s) * 2 ^ (8 * j + s)) + (v % 2 ^ (8 - s)) * 2 ^ (8 * j + s) = v * 2 ^ (8 * j + s) := by
    rw [← Nat.mul_assoc, ← Nat.add_mul]
    congr 1
    rw [Nat.mul_comm]
    exact Nat.div_add_mod v (2 ^ (8 - s))
  have h1 : v % 2 ^ (8 - s) + 1 ≤ 2 ^ (8 - s) := Nat.mod_lt _ (pow_pos _)
  have h2 := Nat.mul_le_mul_right (2 ^ (8 * j + s)) h1
  rw [Nat.add_mul] at h2
  generalize 2 ^ (8 * j + s) = P at *
  constructor <;> omega

/-- some bits of all bytes are the upper bits of a byte -/
theorem val_bits {b : List UInt8} {p : Nat} (hp : p / 8 < b.length) : b[p / 8].toNat / 2 ^ (p % 8) = Num.val b / 2 ^ p % 2 ^ (8 - p % 8) := by
  induction b generalizing p with
  | nil => simp at hp
  | cons x r ih =>
    have hx := Num.byte_lt x
    rcases Nat.lt_or_ge p 8 with h | h
    · have e : p / 8 = 0 := by omega
      have e2 : p % 8 = p := by omega
      simp only [e, e2, List.getElem_cons_zero, Num.val]
      have hm : (256 : Nat) = 2 ^ p * 2 ^ (8 - p) := by rw [← Nat.pow_add, show p + (8 - p) = 8 from by omega]
      have hlt : x.toNat / 2 ^ p < 2 ^ (8 - p) := by rw [Nat.div_lt_iff_lt_mul (pow_pos p), Nat.mul_comm, ← hm]; exact hx
      rw [hm, Nat.mul_assoc, Nat.add_mul_div_left _ _ (pow_pos p), Nat.add_mul_mod_self_left, Nat.mod_eq_of_lt hlt]
    · obtain ⟨q, rfl⟩ : ∃ q, p = q + 8 := ⟨p - 8, by omega⟩
      have e : (q + 8) / 8 = q / 8 + 1 := by omega
      have e2 : (q + 8) % 8 = q % 8 := by omega
      simp only [e, e2, List.getElem_cons_succ, Num.val]
      rw [ih (by simp only [e, List.length_cons] at hp; omega), Nat.add_comm q 8, Nat.pow_add, ← Nat.div_div_eq_div_mul, show (2 : Nat) ^ 8 = 256 from rfl, Nat.add_mul_div_left _ _ (by omega), Nat.div_eq_of_lt hx, Nat.zero_add]
/-- lower bits and the next ones -/
theorem mod_more (M g k : Nat) : M % 2 ^ g + (M / 2 ^ g % 2 ^ k) * 2 ^ g = M % 2 ^ (g + k) := by
  rw [Nat.pow_add, Nat.mod_mul, Nat.mul_comm (2 ^ g)]
/-- ONE STEP of a number out of its bytes, in 64 bits -/
theorem or_more {M g k : Nat} (hg : g < 64) : (M % 2 ^ g) ||| ((M / 2 ^ g % 2 ^ k) * 2 ^ g) % 18446744073709551616 = M % 2 ^ (g + k) % 18446744073709551616 := by
  have e : (18446744073709551616 : Nat) = 2 ^ g * 2 ^ (64 - g) := by rw [← Nat.pow_add, show g + (64 - g) = 64 from by omega]
  have hY : M % 2 ^ g < 2 ^ g := Nat.mod_lt _ (pow_pos g)
  rw [← mod_more, Nat.mul_comm _ (2 ^ g), e, Nat.mul_mod_mul_left, Nat.or_comm, ← Nat.two_pow_add_eq_or_of_lt hY, Nat.add_comm (M % 2 ^ g), Nat.mod_mul,
    Nat.mul_add_mod, Nat.mod_eq_of_lt hY, Nat.mul_add_div (pow_pos g), Nat.div_eq_of_lt hY, Nat.add_zero]
  omega
/-- the mask -/
theorem and_low (Y w : Nat) : Y &&& (2 ^ w - 1) = Y % 2 ^ w := Nat.and_two_pow_sub_one_eq_mod Y w
theorem mod_mod_le {M w g : Nat} (h : w ≤ g) : M % 2 ^ g % 2 ^ w = M % 2 ^ w := by
  obtain ⟨d, rfl⟩ : ∃ d, g = w + d := ⟨g - w, by omega⟩
  rw [Nat.pow_add, Nat.mod_mul_right_mod]
theorem out_all {M w g : Nat} (hw : w ≤ 64) (h : w ≤ g) : M % 2 ^ g % 18446744073709551616 % 2 ^ w = M % 2 ^ w := by
  rw [show (18446744073709551616 : Nat) = 2 ^ 64 from rfl, mod_mod_le hw, mod_mod_le h]

/-- Is a bit behind the numbers set? -/
theorem unused {b : List UInt8} {p : Nat} (hlen : b.length = (p + 7) / 8) (h8 : p % 8 ≠ 0) : ∃ hp : p / 8 < b.length, (b[p / 8].toNat / 2 ^ (p % 8) = 0 ↔ Num.val b < 2 ^ p) := by
  have hp : p / 8 < b.length := by omega
  refine ⟨hp, ?_⟩
  have hv := Num.val_lt b
  rw [pow256, hlen, show 8 * ((p + 7) / 8) = p + (8 - p % 8) from by omega, Nat.pow_add] at hv
  have hlt : Num.val b / 2 ^ p < 2 ^ (8 - p % 8) := by rw [Nat.div_lt_iff_lt_mul (pow_pos p), Nat.mul_comm]; exact hv
  rw [val_bits hp, Nat.mod_eq_of_lt hlt]
  constructor
  · intro h
    rcases Nat.lt_or_ge (Num.val b) (2 ^ p) with h1 | h1
    · exact h1
    · have := Nat.div_pos h1 (pow_pos p)
      omega
  · exact fun h => Nat.div_eq_of_lt h
theorem used_all {b : List UInt8} {p : Nat} (hlen : b.length = (p + 7) / 8) (h8 : p % 8 = 0) : Num.val b < 2 ^ p := by
  have hv := Num.val_lt b
  rwa [pow256, hlen, show 8 * ((p + 7) / 8) = p from by omega] at hv

/-- what Pack answers: the bytes, and the error -/
def pack (l : List UInt64) (w : Int) : List UInt8 × Nat :=
  if w < 0 ∨ 64 < w then ([], 1) else if width l ≤ w.toNat then (packed w.toNat l, 0) else ([], 7)
/-- what Unpack answers: the numbers, and the error -/
def unpack (b : List UInt8) (n w : Int) : List UInt64 × Nat :=
  if w < 0 ∨ 64 < w ∨ n < 0 ∨ 4096 < n then ([], 1) else if b.length < size n.toNat w.toNat then ([], 3)
  else if size n.toNat w.toNat < b.length ∨ 2 ^ (n.toNat * w.toNat) ≤ Num.val b then ([], 2) else (parts n.toNat w.toNat (Num.val b), 0)

theorem pack_ok {l : List UInt64} {w : Nat} (hw : w ≤ 64) (h : Fit w l) : pack l (w : Int) = (packed w l, 0) := by
  unfold pack
  rw [if_neg (by omega), Int.toNat_natCast, if_pos ((width_le_iff l hw).2 h)]
theorem pack_range {l : List UInt64} {w : Nat} (hw : w ≤ 64) (h : ¬ Fit w l) : pack l (w : Int) = ([], 7) := by
  unfold pack
  rw [if_neg (by omega), Int.toNat_natCast, if_neg (fun h' => h ((width_le_iff l hw).1 h'))]
/-- what is packed is unpacked -/
theorem unpack_pack {l : List UInt64} {w : Nat} (hw : w ≤ 64) (h : Fit w l) (hl : l.length ≤ 4096) : unpack (packed w l) (l.length : Int) (w : Int) = (l, 0) := by
  unfold unpack
  simp only [Int.toNat_natCast, packed_length, val_packed h]
  have := cat_lt h
  rw [if_neg (by omega), if_neg (by omega), if_neg (by omega), parts_cat hw h]
/-- what is unpacked is packed -/
theorem pack_unpack {b : List UInt8} {n w : Int} {l : List UInt64} (h : unpack b n w = (l, 0)) : pack l w = (b, 0) ∧ (l.length : Int) = n := by
  unfold unpack at h
  split at h
  · simp at h
  · rename_i h1
    split at h
    · simp at h
    · rename_i h2
      split at h
      · simp at h
      · rename_i h3
        simp only [Prod.mk.injEq, and_true] at h
        subst h
        obtain ⟨n', rfl⟩ : ∃ m : Nat, n = m := ⟨n.toNat, by omega⟩
        obtain ⟨w', rfl⟩ : ∃ m : Nat, w = m := ⟨w.toNat, by omega⟩
        simp only [Int.toNat_natCast] at *
        have hw : w' ≤ 64 := by omega
        refine ⟨?_, by rw [parts_length]⟩
        rw [pack_ok hw (parts_fit hw)]
        have hlt : Num.val b < 2 ^ (n' * w') := by omega
        have hlen : size n' w' = b.length := by omega
        unfold packed
        rw [parts_length, cat_parts hw, Nat.mod_eq_of_lt hlt, hlen, Num.le_val]
/-- Are there numbers, or which error? -/
theorem unpack_cases (b : List UInt8) (n w : Int) : (∃ l, unpack b n w = (l, 0)) ∨ ∃ e, unpack b n w = ([], e) ∧ e ≠ 0 := by
  unfold unpack
  split
  · exact .inr ⟨1, rfl, by omega⟩
  · split
    · exact .inr ⟨3, rfl, by omega⟩
    · split
      · exact .inr ⟨2, rfl, by omega⟩
      · exact .inl ⟨_, rfl⟩
theorem unpack_len (b : List UInt8) (n w : Int) : (unpack b n w).1.length ≤ 4096 := by
  unfold unpack
  split
  · simp
  · split
    · simp
    · split
      · simp
      · simp only [parts_length]
        omega
end Go.Proofs.Ytgjopffdgdimlaa.Bits

/- Blocks of numbers near one another, on lists: plain arithmetic, no program. -/
namespace Go.Proofs.Ytgjopffdgdimlaa.Pfor

/-- the least of a and the numbers of l -/
def leastOf (a : Nat) (l : List UInt64) : Nat := l.foldl (fun m x => min m x.toNat) a
/-- the least number of a list -/
def base : List UInt64 → Nat
  | [] => 0
  | x :: r => leastOf x.toNat r
/-- the differences from it -/
def diffs (l : List UInt64) : List UInt64 := l.map fun x => UInt64.ofNat (x.toNat - base l)
/-- the lowest w bits -/
def lows (w : Nat) (ds : List UInt64) : List UInt64 := ds.map fun d => UInt64.ofNat (d.toNat % 2 ^ w)
/-- a difference's exception, if it is one -/
def exc (w i : Nat) (d : UInt64) : List UInt8 := if d.toNat / 2 ^ w = 0 then [] else UInt8.ofNat i :: Num.num (d.toNat / 2 ^ w)
/-- all exceptions, the first index being i -/
def excs (w : Nat) : Nat → List UInt64 → List UInt8
  | _, [] => []
  | i, d :: r => exc w i d ++ excs w (i + 1) r
/-- how many exceptions -/
def cnt (w : Nat) : List UInt64 → Nat
  | [] => 0
  | d :: r => (if d.toNat / 2 ^ w = 0 then 0 else 1) + cnt w r
/-- low bits and exceptions -/
def body (w : Nat) (ds : List UInt64) : List UInt8 := Bits.packed w (lows w ds) ++ excs w 0 ds
def bodySize (w : Nat) (ds : List UInt64) : Nat := Bits.size ds.length w + (excs w 0 ds).length
/-- a block by a width -/
def byW (w : Nat) (l : List UInt64) : List UInt8 := UInt8.ofNat l.length :: (Num.num (base l) ++ (UInt8.ofNat w :: UInt8.ofNat (cnt w (diffs l)) :: body w (diffs l)))
/-- where f is least, the first such place up to n -/
def best (f : Nat → Nat) : Nat → Nat
  | 0 => 0
  | k + 1 => if f (k + 1) < f (best f k) then k + 1 else best f k
/-- a block's width -/
def width (l : List UInt64) : Nat := best (fun w => bodySize w (diffs l)) 64
/-- a block's bytes -/
def block (l : List UInt64) : List UInt8 := byW (width l) l
/-- can it be a block? -/
def Good (l : List UInt64) : Prop := 1 ≤ l.length ∧ l.length ≤ 32

theorem leastOf_le (a : Nat) (l : List UInt64) : leastOf a l ≤ a ∧ ∀ x ∈ l, leastOf a l ≤ x.toNat := by
  induction l generalizing a with
  | nil => exact ⟨Nat.le_refl _, fun _ h => by cases h⟩
  | cons y r ih =>
    have h := ih (min a y.toNat)
    have e : leastOf a (y :: r) = leastOf (min a y.toNat) r := rfl
    rw [e]
    refine ⟨by omega, fun x hx => ?_⟩
    rcases List.mem_cons.1 hx with rfl | hx
    · omega
    · exact h.2 x hx
theorem leastOf_snoc (a : Nat) (l : List UInt64) (x : UInt64) : leastOf a (l ++ [x]) = min (leastOf a l) x.toNat := by simp [leastOf]
theorem leastOf_take_succ (a : Nat) {l : List UInt64} {k : Nat} (hk : k < l.length) : leastOf a (l.take (k + 1)) = min (leastOf a (l.take k)) l[k].toNat := by
  rw [List.take_succ_eq_append_getElem hk, leastOf_snoc]
theorem leastOf_self (x : UInt64) (r : List UInt64) : leastOf x.toNat (x :: r) = base (x :: r) := by
  show leastOf (min x.toNat x.toNat) r = leastOf x.toNat r
  rw [Nat.min_self]
theorem base_le {l : List UInt64} {x : UInt64} (hx : x ∈ l) : base l ≤ x.toNat := by
  cases l with
  | nil => cases hx
  | cons y r =>
    have h := leastOf_le y.toNat r
    rcases List.mem_cons.1 hx with rfl | hx
    · exact h.1
    · exact h.2 x hx
theorem base_lt (l : List UInt64) : base l < 18446744073709551616 := by
  cases l with
  | nil => decide
  | cons y r => exact Nat.lt_of_le_of_lt (base_le (List.mem_cons_self ..)) y.toNat_lt

theorem diffs_length (l : List UInt64) : (diffs l).length = l.length := by simp [diffs]
theorem lows_length (w : Nat) (l : List UInt64) : (lows w l).length = l.length := by simp [lows]
theorem diffs_get {l : List UInt64} {k : Nat} (hk : k < l.length) : (diffs l)[k]'(by rw [diffs_length]; exact hk) = UInt64.ofNat (l[k].toNat - base l) := by simp [diffs]
theorem lows_get {w : Nat} {l : List UInt64} {k : Nat} (hk : k < l.length) : (lows w l)[k]'(by rw [lows_length]; exact hk) = UInt64.ofNat (l[k].toNat % 2 ^ w) := by simp [lows]
theorem lows_fit {w : Nat} (ds : List UInt64) : Bits.Fit w (lows w ds) := fun x hx => by
  obtain ⟨d, _, rfl⟩ := List.mem_map.1 hx
  have h1 : d.toNat % 2 ^ w < 2 ^ w := Nat.mod_lt _ (Bits.pow_pos w)
  have h2 : d.toNat % 2 ^ w ≤ d.toNat := Nat.mod_le _ _
  rw [Bits.toNat_ofNat (Nat.lt_of_le_of_lt h2 d.toNat_lt)]
  exact h1
theorem excs_snoc (w i : Nat) (l : List UInt64) (d : UInt64) : excs w i (l ++ [d]) = excs w i l ++ exc w (i + l.length) d := by
  induction l generalizing i with
  | nil => simp [excs]
  | cons x r ih => simp only [List.cons_append, excs, ih, List.length_cons, List.append_assoc]; rw [show i + 1 + r.length = i + (r.length + 1) from by omega]
theorem excs_take_succ (w : Nat) {l : List UInt64} {k : Nat} (hk : k < l.length) : excs w 0 (l.take (k + 1)) = excs w 0 (l.take k) ++ exc w k l[k] := by
  rw [List.take_succ_eq_append_getElem hk, excs_snoc, List.length_take, Nat.min_eq_left (by omega), Nat.zero_add]
theorem cnt_snoc (w : Nat) (l : List UInt64) (d : UInt64) : cnt w (l ++ [d]) = cnt w l + if d.toNat / 2 ^ w = 0 then 0 else 1 := by
  induction l with
  | nil => simp [cnt]
  | cons x r ih => rw [List.cons_append, cnt, ih, cnt]; omega
theorem cnt_take_succ (w : Nat) {l : List UInt64} {k : Nat} (hk : k < l.length) : cnt w (l.take (k + 1)) = cnt w (l.take k) + if l[k].toNat / 2 ^ w = 0 then 0 else 1 := by
  rw [List.take_succ_eq_append_getElem hk, cnt_snoc]
theorem cnt_le (w : Nat) (l : List UInt64) : cnt w l ≤ l.length := by
  induction l with
  | nil => exact Nat.le_refl _
  | cons x r ih => rw [cnt, List.length_cons]; split <;> omega
theorem exc_length (w i : Nat) (d : UInt64) : (exc w i d).length = if d.toNat / 2 ^ w = 0 then 0 else 1 + Num.size (d.toNat / 2 ^ w) := by
  unfold exc
  split
  · rfl
  · rw [List.length_cons, Num.num_length]; omega
theorem div_lt (d : UInt64) (w : Nat) : d.toNat / 2 ^ w < 18446744073709551616 := Nat.lt_of_le_of_lt (Nat.div_le_self _ _) d.toNat_lt
theorem exc_length_le (w i : Nat) (d : UInt64) : (exc w i d).length ≤ 10 := by
  rw [exc_length]
  have := Num.size_le9 (div_lt d w)
  split <;> omega
theorem excs_length_le (w i : Nat) (l : List UInt64) : (excs w i l).length ≤ 10 * l.length := by
  induction l generalizing i with
  | nil => simp [excs]
  | cons x r ih =>
    have h1 := exc_length_le w i x
    have h2 := ih (i + 1)
    rw [excs, List.length_append, List.length_cons]
    omega
theorem body_length (w : Nat) (ds : List UInt64) : (body w ds).length = bodySize w ds := by
  rw [body, List.length_append, Bits.packed_length, lows_length, bodySize]
theorem byW_length (w : Nat) (l : List UInt64) : (byW w l).length = 3 + Num.size (base l) + bodySize w (diffs l) := by
  rw [byW, List.length_cons, List.length_append, List.length_cons, List.length_cons, body_length, Num.num_length]
  omega
theorem bodySize_le {w : Nat} {l : List UInt64} (hw : w ≤ 64) (hl : l.length ≤ 32) : bodySize w l ≤ 576 := by
  have h1 := excs_length_le w 0 l
  have h2 : l.length * w ≤ 32 * 64 := Nat.mul_le_mul hl hw
  unfold bodySize Bits.size
  omega
theorem byW_length_le {w : Nat} {l : List UInt64} (hw : w ≤ 64) (hl : l.length ≤ 32) : (byW w l).length ≤ 600 := by
  have h1 := bodySize_le hw (show (diffs l).length ≤ 32 by rw [diffs_length]; exact hl)
  have h2 := Num.size_le9 (base_lt l)
  rw [byW_length]
  omega

theorem best_le_n (f : Nat → Nat) (n : Nat) : best f n ≤ n := by
  induction n with
  | zero => exact Nat.le_refl _
  | succ n ih => rw [best]; split <;> omega
theorem best_min (f : Nat → Nat) (n : Nat) : ∀ k, k ≤ n → f (best f n) ≤ f k := by
  induction n with
  | zero =>
    intro k hk
    obtain rfl : k = 0 := by omega
    exact Nat.le_refl _
  | succ n ih =>
    intro k hk
    rw [best]
    split
    · rcases Nat.lt_or_ge k (n + 1) with h | h
      · have := ih k (by omega); omega
      · obtain rfl : k = n + 1 := by omega
        exact Nat.le_refl _
    · rcases Nat.lt_or_ge k (n + 1) with h | h
      · exact ih k (by omega)
      · obtain rfl : k = n + 1 := by omega
        omega
theorem best_stop (f : Nat → Nat) (W : Nat) (n : Nat) (hn : W ≤ n) (h : ∀ k, W < k → k ≤ n → f W ≤ f k) : best f n = best f W := by
  induction n with
  | zero =>
    obtain rfl : W = 0 := by omega
    rfl
  | succ n ih =>
    rcases Nat.lt_or_ge n W with hlt | hge
    · obtain rfl : W = n + 1 := by omega
      rfl
    · have e := ih hge (fun k h1 h2 => h k h1 (by omega))
      rw [best, e, if_neg]
      have h1 := best_min f W W (Nat.le_refl _)
      have h2 := h (n + 1) (by omega) (Nat.le_refl _)
      omega
theorem width_le (l : List UInt64) : width l ≤ 64 := best_le_n _ _
theorem excs_fit {w i : Nat} {l : List UInt64} (h : Bits.Fit w l) : excs w i l = [] := by
  induction l generalizing i with
  | nil => rfl
  | cons x r ih =>
    rw [excs, ih h.tail, exc, if_pos (Nat.div_eq_of_lt h.head)]
    rfl
theorem size_mono {n v w : Nat} (h : v ≤ w) : Bits.size n v ≤ Bits.size n w := by
  have := Nat.mul_le_mul_left n h
  unfold Bits.size
  omega
/-- beyond the widest difference nothing is saved -/
theorem width_stop (l : List UInt64) : best (fun w => bodySize w (diffs l)) (Bits.width (diffs l)) = width l := by
  unfold width
  rw [best_stop _ (Bits.width (diffs l)) 64 (Bits.width_le64 _)]
  intro k h1 h2
  have e1 := excs_fit (i := 0) (Bits.fit_width (diffs l))
  have e2 := excs_fit (i := 0) ((Bits.fit_width (diffs l)).mono (Nat.le_of_lt h1))
  have := size_mono (n := (diffs l).length) (Nat.le_of_lt h1)
  unfold bodySize
  rw [e1, e2]
  omega
theorem block_length (l : List UInt64) : (block l).length = 3 + Num.size (base l) + bodySize (width l) (diffs l) := byW_length _ _
theorem block_least (l : List UInt64) {w : Nat} (hw : w ≤ 64) : (block l).length ≤ (byW w l).length := by
  rw [block_length, byW_length]
  have h : bodySize (width l) (diffs l) ≤ bodySize w (diffs l) := best_min (fun w => bodySize w (diffs l)) 64 w hw
  omega
theorem block_length_le {l : List UInt64} (hl : l.length ≤ 32) : (block l).length ≤ 268 := by
  have h1 := block_least l (Nat.le_refl 64)
  rw [byW_length] at h1
  have h2 := Num.size_le9 (base_lt l)
  have e := excs_fit (i := 0) (Bits.fit64 (diffs l))
  unfold bodySize Bits.size at h1
  rw [e, diffs_length, List.length_nil] at h1
  omega
theorem block_pos (l : List UInt64) : 4 ≤ (block l).length := by
  rw [block_length]
  have := Num.size_pos (base l)
  omega

/-- numbers, each with b more -/
def plus (b : Nat) (ds : List UInt64) : List UInt64 := ds.map fun d => UInt64.ofNat (d.toNat + b)
theorem plus_length (b : Nat) (l : List UInt64) : (plus b l).length = l.length := by simp [plus]
theorem plus_diffs (l : List UInt64) : plus (base l) (diffs l) = l := by
  unfold plus diffs
  rw [List.map_map]
  conv => rhs; rw [← List.map_id l]
  apply List.map_congr_left
  intro x hx
  have h1 := base_le hx
  have h2 := x.toNat_lt
  simp only [Function.comp, id]
  rw [Bits.toNat_ofNat (by omega), Nat.sub_add_cancel h1, Bits.u64_ofNat]

/-- an old number with high bits laid over it -/
def over (w d v : Nat) : Nat := d ||| (v * 2 ^ w % 18446744073709551616)
/-- the landed reader's exceptions -/
def addHigh (w : Nat) : Nat → List UInt64 → List UInt8 → Option (List UInt64)
  | 0, ds, _ => some ds
  | _ + 1, _, [] => none
  | k + 1, ds, i :: r => if i.toNat < ds.length then
      (if (Num.take r).2.2 = 0 then addHigh w k (ds.set i.toNat (UInt64.ofNat (over w (ds.getD i.toNat 0).toNat (Num.take r).1))) (r.drop (Num.take r).2.1) else none)
    else none
/-- the landed reader -/
def read : List UInt8 → Option (List UInt64)
  | [] => none
  | c :: r => if 1 ≤ c.toNat ∧ c.toNat ≤ 32 then
      (if (Num.take r).2.2 = 0 then
        (match r.drop (Num.take r).2.1 with
          | v :: x :: t => if Bits.size c.toNat v.toNat ≤ t.length then
              (if (Bits.unpack (t.take (Bits.size c.toNat v.toNat)) c.toNat v.toNat).2 = 0 then
                (addHigh v.toNat x.toNat (Bits.unpack (t.take (Bits.size c.toNat v.toNat)) c.toNat v.toNat).1 (t.drop (Bits.size c.toNat v.toNat))).map (plus (Num.take r).1)
              else none)
            else none
          | _ => none)
      else none)
    else none

theorem low_over {w d : Nat} (hd : d < 18446744073709551616) : over w (d % 2 ^ w) (d / 2 ^ w) = d := by
  unfold over
  have h := Nat.div_add_mod d (2 ^ w)
  have hlt : d / 2 ^ w * 2 ^ w < 18446744073709551616 := Nat.lt_of_le_of_lt (Nat.div_mul_le_self _ _) hd
  rw [Nat.mod_eq_of_lt hlt, Nat.or_comm, Nat.mul_comm, ← Nat.two_pow_add_eq_or_of_lt (Nat.mod_lt _ (Bits.pow_pos w))]
  exact h
theorem set_mid {α : Type} (a : List α) (x y : α) (b : List α) : (a ++ x :: b).set a.length y = a ++ y :: b := by
  rw [List.set_append_right _ _ (Nat.le_refl _), Nat.sub_self, List.set_cons_zero]
theorem getD_mid {α : Type} (a : List α) (x z : α) (b : List α) : (a ++ x :: b).getD a.length z = x := by
  simp [List.getD_eq_getElem?_getD]
theorem low_toNat (w : Nat) (d : UInt64) : (UInt64.ofNat (d.toNat % 2 ^ w)).toNat = d.toNat % 2 ^ w :=
  Bits.toNat_ofNat (Nat.lt_of_le_of_lt (Nat.mod_le _ _) d.toNat_lt)
theorem addHigh_excs (w : Nat) (suf : List UInt64) : ∀ (pre : List UInt64) (t : List UInt8), pre.length + suf.length ≤ 32 →
    addHigh w (cnt w suf) (pre ++ lows w suf) (excs w pre.length suf ++ t) = some (pre ++ suf) := by
  induction suf with
  | nil => intro pre t _; simp [cnt, lows, excs, addHigh]
  | cons d r ih =>
    intro pre t hlen
    rw [List.length_cons] at hlen
    have e1 : lows w (d :: r) = UInt64.ofNat (d.toNat % 2 ^ w) :: lows w r := rfl
    have h2 := ih (pre ++ [d]) t (by simp; omega)
    rw [List.length_append, List.length_singleton, List.append_assoc, List.append_assoc] at h2
    simp only [List.singleton_append] at h2
    by_cases h0 : d.toNat / 2 ^ w = 0
    · have hlt : d.toNat < 2 ^ w := by
        rcases Nat.lt_or_ge d.toNat (2 ^ w) with h | h
        · exact h
        · have := Nat.div_pos h (Bits.pow_pos w); omega
      rw [cnt, if_pos h0, Nat.zero_add, e1, Nat.mod_eq_of_lt hlt, Bits.u64_ofNat, excs, exc, if_pos h0, List.nil_append]
      exact h2
    · have hi : (UInt8.ofNat pre.length).toNat = pre.length := by rw [Num.toNat_ofNat]; omega
      rw [cnt, if_neg h0, Nat.add_comm 1, e1, excs, exc, if_neg h0, List.cons_append, List.cons_append, addHigh, hi, if_pos (by simp), List.append_assoc, Num.take_num (div_lt d w)]
      simp only [if_true]
      rw [getD_mid, set_mid, low_toNat, low_over d.toNat_lt, Bits.u64_ofNat, List.drop_left' (Num.num_length _)]
      exact h2

/-- what is laid by any width is read, whatever stands behind -/
theorem read_byW {w : Nat} {l : List UInt64} (hw : w ≤ 64) (hl : Good l) (t : List UInt8) : read (byW w l ++ t) = some l := by
  obtain ⟨h1, h2⟩ := hl
  have hn : (UInt8.ofNat l.length).toNat = l.length := by rw [Num.toNat_ofNat]; omega
  have hwn : (UInt8.ofNat w).toNat = w := by rw [Num.toNat_ofNat]; omega
  have hc := cnt_le w (diffs l)
  rw [diffs_length] at hc
  have hcn : (UInt8.ofNat (cnt w (diffs l))).toNat = cnt w (diffs l) := by rw [Num.toNat_ofNat]; omega
  have hp : (Bits.packed w (lows w (diffs l))).length = Bits.size l.length w := by rw [Bits.packed_length, lows_length, diffs_length]
  have hu := Bits.unpack_pack hw (lows_fit (w := w) (diffs l)) (by rw [lows_length, diffs_length]; omega)
  rw [lows_length, diffs_length] at hu
  rw [byW, List.cons_append, read, hn, if_pos ⟨h1, h2⟩, List.append_assoc, Num.take_num (base_lt l)]
  simp only [if_true]
  rw [List.drop_left' (Num.num_length _)]
  simp only [List.cons_append, hwn, hcn]
  rw [body, List.append_assoc, List.take_left' hp, List.drop_left' hp, hu, if_pos (by rw [List.length_append, hp]; omega)]
  simp only [if_true]
  have ha := addHigh_excs w (diffs l) [] t (by rw [diffs_length]; simpa using h2)
  rw [List.nil_append, List.nil_append, List.length_nil] at ha
  rw [ha, Option.map_some, plus_diffs]
theorem read_block {l : List UInt64} (hl : Good l) (t : List UInt8) : read (block l ++ t) = some l := read_byW (width_le l) hl t

/-- The block that bytes begin with: its numbers, its size, its error. -/
noncomputable def takeBlock (b : List UInt8) : List UInt64 × Nat × Nat :=
  open Classical in if h : ∃ l, Good l ∧ block l <+: b then (h.choose, (block h.choose).length, 0) else ([], 0, 2)
theorem block_unique {l m : List UInt64} {b : List UInt8} (hl : Good l) (hm : Good m) (h1 : block l <+: b) (h2 : block m <+: b) : l = m := by
  obtain ⟨t, rfl⟩ := h1
  obtain ⟨u, hu⟩ := h2
  have e1 := read_block hl t
  have e2 := read_block hm u
  rw [hu, e1] at e2
  exact Option.some.inj e2
theorem takeBlock_of {l : List UInt64} {b : List UInt8} (hl : Good l) (h : block l <+: b) : takeBlock b = (l, (block l).length, 0) := by
  have hex : ∃ l, Good l ∧ block l <+: b := ⟨l, hl, h⟩
  have e : hex.choose = l := block_unique hex.choose_spec.1 hl hex.choose_spec.2 h
  unfold takeBlock
  rw [dif_pos hex, e]
theorem takeBlock_block {l : List UInt64} (hl : Good l) (t : List UInt8) : takeBlock (block l ++ t) = (l, (block l).length, 0) := takeBlock_of hl ⟨t, rfl⟩
theorem takeBlock_none {b : List UInt8} (h : ∀ l, Good l → ¬ block l <+: b) : takeBlock b = ([], 0, 2) := by
  unfold takeBlock
  rw [dif_neg]
  rintro ⟨l, hl, hb⟩
  exact h l hl hb
theorem takeBlock_cases (b : List UInt8) : (∃ l, Good l ∧ block l <+: b ∧ takeBlock b = (l, (block l).length, 0)) ∨ takeBlock b = ([], 0, 2) := by
  rcases Classical.em (∃ l, Good l ∧ block l <+: b) with ⟨l, hl, h⟩ | h
  · exact .inl ⟨l, hl, h, takeBlock_of hl h⟩
  · exact .inr (takeBlock_none fun l hl hb => h ⟨l, hl, hb⟩)
/-- What a reader that lays again and compares comes to: it read 'none', or what it read is what such a block is laid as, or not. -/
theorem takeBlock_read_none {b : List UInt8} (h : read b = none) : takeBlock b = ([], 0, 2) := takeBlock_none fun l hl hb => by
  obtain ⟨t, rfl⟩ := hb
  rw [read_block hl t] at h
  cases h
theorem takeBlock_read_not {b : List UInt8} {m : List UInt64} (h : read b = some m) (hp : ¬ block m <+: b) : takeBlock b = ([], 0, 2) := takeBlock_none fun l hl hb => by
  obtain ⟨t, rfl⟩ := hb
  rw [read_block hl t] at h
  cases h
  exact hp ⟨t, rfl⟩
end Go.Proofs.Ytgjopffdgdimlaa.Pfor

/- Lists of blocks, on lists: plain. -/
namespace Go.Proofs.Ytgjopffdgdimlaa.Pfor

/-- the blocks of a list, one behind the other -/
def blocks (l : List UInt64) : List UInt8 := if _h : l = [] then [] else block (l.take 32) ++ blocks (l.drop 32)
termination_by l.length
decreasing_by
  have : 0 < l.length := List.length_pos_iff.2 _h
  simp only [List.length_drop]
  omega
theorem blocks_nil : blocks [] = [] := by rw [blocks]; simp
theorem blocks_cons {l : List UInt64} (h : l ≠ []) : blocks l = block (l.take 32) ++ blocks (l.drop 32) := by rw [blocks, dif_neg h]
/-- a list's bytes -/
def list (l : List UInt64) : List UInt8 := Num.num l.length ++ blocks l
theorem take32_good {l : List UInt64} (h : l ≠ []) : Good (l.take 32) := by
  have : 0 < l.length := List.length_pos_iff.2 h
  unfold Good
  rw [List.length_take]
  omega
theorem blocks_length_le (l : List UInt64) : (blocks l).length ≤ 268 * l.length := by
  induction hn : l.length using Nat.strongRecOn generalizing l with
  | ind n ih =>
    by_cases h : l = []
    · subst h; rw [blocks_nil]; simp
    · have h0 : 0 < l.length := List.length_pos_iff.2 h
      have h1 := block_length_le (l := l.take 32) (by rw [List.length_take]; omega)
      have h2 := ih (l.drop 32).length (by rw [List.length_drop]; omega) (l.drop 32) rfl
      rw [List.length_drop] at h2
      rw [blocks_cons h, List.length_append]
      omega
theorem list_length_le (l : List UInt64) (hl : l.length < 18446744073709551616) : (list l).length ≤ 9 + 268 * l.length := by
  have h1 := blocks_length_le l
  have h2 := Num.size_le9 hl
  rw [list, List.length_append, Num.num_length]
  omega

/-- The blocks of n numbers that bytes have from at_ on: numbers, where one stands then, error. -/
noncomputable def takeBlocks (b : List UInt8) : Nat → List UInt64 → Nat → List UInt64 × Nat × Nat
  | 0, acc, at_ => (acc, at_, 0)
  | n + 1, acc, at_ => if (takeBlock (b.drop at_)).2.2 = 0 ∧ (takeBlock (b.drop at_)).1.length = min (n + 1) 32 then
      takeBlocks b (n + 1 - 32) (acc ++ (takeBlock (b.drop at_)).1) (at_ + (takeBlock (b.drop at_)).2.1) else ([], 0, 2)
termination_by n => n
decreasing_by omega
theorem takeBlocks_zero (b : List UInt8) (acc : List UInt64) (at_ : Nat) : takeBlocks b 0 acc at_ = (acc, at_, 0) := by rw [takeBlocks]
theorem takeBlocks_pos (b : List UInt8) {n : Nat} (hn : 0 < n) (acc : List UInt64) (at_ : Nat) : takeBlocks b n acc at_ = if (takeBlock (b.drop at_)).2.2 = 0 ∧ (takeBlock (b.drop at_)).1.length = min n 32 then
      takeBlocks b (n - 32) (acc ++ (takeBlock (b.drop at_)).1) (at_ + (takeBlock (b.drop at_)).2.1) else ([], 0, 2) := by
  obtain ⟨m, rfl⟩ : ∃ m, n = m + 1 := ⟨n - 1, by omega⟩
  rw [takeBlocks]
/-- the list that bytes begin with, of at most so many numbers -/
noncomputable def takeList (b : List UInt8) (most : Int) : List UInt64 × Nat × Nat :=
  if most < 0 then ([], 0, 1) else
    if (Num.take b).2.2 ≠ 0 then ([], 0, 2) else
      if most < (Num.take b).1 then ([], 0, 5) else takeBlocks b (Num.take b).1 [] (Num.take b).2.1

theorem takeBlocks_blocks (b : List UInt8) (l : List UInt64) : ∀ (acc : List UInt64) (at_ : Nat) (t : List UInt8), b.drop at_ = blocks l ++ t → takeBlocks b l.length acc at_ = (acc ++ l, at_ + (blocks l).length, 0) := by
  induction hn : l.length using Nat.strongRecOn generalizing l with
  | ind n ih =>
    intro acc at_ t hd
    by_cases h : l = []
    · subst h
      subst hn
      rw [List.length_nil, takeBlocks_zero, blocks_nil]
      simp
    · have h0 : 0 < l.length := List.length_pos_iff.2 h
      have hg := take32_good h
      rw [blocks_cons h, List.append_assoc] at hd
      have ht : takeBlock (b.drop at_) = (l.take 32, (block (l.take 32)).length, 0) := by rw [hd]; exact takeBlock_block hg _
      have hl32 : (l.take 32).length = min n 32 := by rw [List.length_take]; omega
      rw [takeBlocks_pos b (by omega), ht, if_pos ⟨rfl, hl32⟩]
      have hd2 : b.drop (at_ + (block (l.take 32)).length) = blocks (l.drop 32) ++ t := by
        rw [← List.drop_drop, hd, List.drop_left' rfl]
      have := ih (l.drop 32).length (by rw [List.length_drop]; omega) (l.drop 32) rfl (acc ++ l.take 32) _ t hd2
      rw [List.length_drop, hn] at this
      rw [this, List.append_assoc, List.take_append_drop, blocks_cons h, List.length_append, Nat.add_assoc]
/-- what is laid is taken, whatever stands behind -/
theorem takeList_list (l : List UInt64) (t : List UInt8) (hl : l.length < 18446744073709551616) : takeList (list l ++ t) l.length = (l, (list l).length, 0) := by
  unfold takeList
  rw [if_neg (by omega), list, List.append_assoc, Num.take_num hl]
  simp only [ne_eq, not_true, if_false]
  rw [if_neg (by omega), takeBlocks_blocks _ l [] _ t (by rw [List.drop_left' (Num.num_length _)]), List.nil_append, List.length_append, Num.num_length]
end Go.Proofs.Ytgjopffdgdimlaa.Pfor

/- What a byte slice holds in a world, and how that is kept: small words for the walks of this seat. -/
namespace Go.Proofs.Ytgjopffdgdimlaa
open Go.RowKit
set_option maxRecDepth 100000

/-- a byte as a value -/
def bval (b : UInt8) : Value := .int .u8 (b.toNat : Int)
/-- bytes as cells -/
def bvals (l : List UInt8) : List Value := l.map bval
theorem bvals_length (l : List UInt8) : (bvals l).length = l.length := by simp [bvals]
theorem bvals_append (a b : List UInt8) : bvals (a ++ b) = bvals a ++ bvals b := by simp [bvals]
theorem bvals_one (l : List UInt8) : ∀ u ∈ bvals l, u.oneCell' = true := by
  intro u hu
  obtain ⟨b, _, rfl⟩ := List.mem_map.1 hu
  rfl
theorem addr_add_add (a : Addr) (i j : Nat) : (a.add i).add j = a.add (i + j) := by
  unfold Addr.add
  by_cases hi : i = 0 <;> by_cases hj : j = 0 <;> simp [hi, hj, Nat.add_assoc]
theorem addr_add_block (a : Addr) (i : Nat) : (a.add i).block = a.block := by unfold Addr.add; split <;> rfl

/-- A slice with address A holds the bytes l, in a block below B; of an empty one nothing is asked. -/
def Bytes (w : World) (B : Nat) (A : Option Addr) (l : List UInt8) : Prop :=
  l ≠ [] → ∃ ad, A = some ad ∧ ad.block < B ∧ ∀ i, (h : i < l.length) → w.cell? (ad.add i) = some (bval l[i])

namespace Bytes
variable {w w' : World} {B B' : Nat} {A : Option Addr} {l : List UInt8}
theorem nil (w : World) (B : Nat) (A : Option Addr) : Bytes w B A [] := fun h => absurd rfl h
theorem get (h : Bytes w B A l) {k : Nat} (hk : k < l.length) : ∃ ad, A = some ad ∧ ad.block < B ∧ w.cell? (ad.add k) = some (.int .u8 (l[k].toNat : Int)) := by
  obtain ⟨ad, ha, hb, hc⟩ := h (fun e => by subst e; simp at hk)
  exact ⟨ad, ha, hb, hc k hk⟩
theorem keep (h : Bytes w B A l) (hk : ∀ p : Addr, p.block < B → w'.cell? p = w.cell? p) : Bytes w' B A l := fun hn => by
  obtain ⟨ad, ha, hb, hc⟩ := h hn
  exact ⟨ad, ha, hb, fun i hi => (hk _ (by rw [addr_add_block]; exact hb)).trans (hc i hi)⟩
theorem wide (h : Bytes w B A l) (hB : B ≤ B') : Bytes w B' A l := fun hn => by
  obtain ⟨ad, ha, hb, hc⟩ := h hn
  exact ⟨ad, ha, Nat.lt_of_lt_of_le hb hB, hc⟩
theorem below (h : Bytes w B A l) (hb : Below B w w') : Bytes w' B A l := h.keep fun _ hp => hb.cell hp
theorem news {ad : Addr} (h : Bytes w B (some ad) l) : ∀ j u, (bvals l)[j]? = some u → w.cell? (ad.add j) = some u := by
  intro j u hu
  have hj : j < l.length := by
    rcases Nat.lt_or_ge j l.length with hlt | hge
    · exact hlt
    · rw [List.getElem?_eq_none (by rw [bvals_length]; exact hge)] at hu; cases hu
  obtain ⟨ad', ha, _, hc⟩ := h (fun e => by subst e; simp at hj)
  cases ha
  rw [hc j hj]
  simp [bvals, List.getElem?_eq_getElem hj] at hu
  rw [← hu]
theorem take (h : Bytes w B A l) (k : Nat) : Bytes w B A (l.take k) := fun hn => by
  obtain ⟨ad, ha, hb, hc⟩ := h (fun e => hn (by subst e; simp))
  exact ⟨ad, ha, hb, fun i hi => by rw [List.getElem_take]; exact hc i (by simp at hi; omega)⟩
theorem drop (h : Bytes w B A l) {k cap : Nat} (hk : k ≤ l.length) (hc : l.length ≤ cap) :
    Bytes w B (if cap = k then A else A.map (·.add k)) (l.drop k) := fun hn => by
  have hlt : k < l.length := by
    rcases Nat.lt_or_ge k l.length with hlt | hge
    · exact hlt
    · exact absurd (List.drop_eq_nil_of_le hge) hn
  obtain ⟨ad, rfl, hb, hcell⟩ := h (fun e => by subst e; simp at hlt)
  rw [if_neg (by omega)]
  refine ⟨ad.add k, rfl, by rw [addr_add_block]; exact hb, fun i hi => ?_⟩
  rw [addr_add_add, List.getElem_drop]
  exact hcell _ _
theorem of_own {base e n c : Nat} (h : w.ownsRow base e 1 (.slice A n c) n (bvals l)) : Bytes w w.heap.size A l := fun hn => by
  have hl : l.length = n := by have := h.1; rw [bvals_length] at this; omega
  have h0 : 0 < n := by
    rcases Nat.eq_zero_or_pos n with h0 | h0
    · exact absurd (List.eq_nil_of_length_eq_zero (by omega)) hn
    · exact h0
  obtain ⟨g, cap, hv, _, hlt⟩ := h.form h0
  have hA : A = some ⟨g, 0, none⟩ := by injection hv
  subst hA
  exact ⟨_, rfl, hlt, fun i hi => h.cells (g := g) rfl i _ (by simp [bvals, List.getElem?_eq_getElem hi])⟩
end Bytes
end Go.Proofs.Ytgjopffdgdimlaa

/- Worlds between which only draws lie. -/
namespace Go.Proofs.Ytgjopffdgdimlaa
open Go.RowKit
set_option maxRecDepth 100000

theorem below_drewN {B : Nat} {a w : World} (h : Below B a w) (q : Nat) : Below B a (w.drewN q) := ⟨h.os, h.tape, h.output, h.size, h.block⟩
theorem below_of_drewN {B : Nat} {w w' : World} {q : Nat} (h : Below B (w.drewN q) w') : Below B w w' := ⟨h.os, h.tape, h.output, h.size, h.block⟩
theorem below_of_drew {B : Nat} {w w' : World} (h : Below B w.drew w') : Below B w w' := ⟨h.os, h.tape, h.output, h.size, h.block⟩
theorem Bytes.drewN {w : World} {B : Nat} {A : Option Addr} {l : List UInt8} (h : Bytes w B A l) (q : Nat) : Bytes (w.drewN q) B A l := h
/-- only draws lie between the two worlds -/
def Drawn (w w' : World) : Prop := ∃ q, w' = w.drewN q
theorem Drawn.refl (w : World) : Drawn w w := ⟨0, rfl⟩
theorem Drawn.drewN {w w' : World} (h : Drawn w w') (n : Nat) : Drawn w (w'.drewN n) := by
  obtain ⟨q, rfl⟩ := h
  exact ⟨q + n, World.drewN_drewN _ _ _⟩
theorem Drawn.below {w w' : World} (h : Drawn w w') (B : Nat) : Below B w w' := by
  obtain ⟨q, rfl⟩ := h
  exact below_drewN (Below.refl _ _) q
theorem Drawn.of_drewN {w w' : World} {n : Nat} (h : Drawn (w.drewN n) w') : Drawn w w' := by
  obtain ⟨q, rfl⟩ := h
  exact ⟨n + q, World.drewN_drewN _ _ _⟩
theorem Drawn.trans {w w' w'' : World} (h : Drawn w w') (h2 : Drawn w' w'') : Drawn w w'' := by
  obtain ⟨q, rfl⟩ := h
  exact h2.of_drewN
theorem quiet_left {P : Program} {f : FuncId} {args : Array Value} {w : World} {n : Nat} {v : Value}
    (h : Calls P f args (w.drewN n) fun e w' => e = .returned v ∧ w.drewN n = w') : Calls P f args (w.drewN n) fun e w'' => e = .returned v ∧ ∃ m, w'' = w.drewN m :=
  h.mono fun _ _ ⟨he, hm⟩ => ⟨he, n, hm.symm⟩
end Go.Proofs.Ytgjopffdgdimlaa

/- The block of a slice. -/
namespace Go.Proofs.Ytgjopffdgdimlaa
open Go.RowKit
set_option maxRecDepth 100000

/-- the block of a slice -/
def blk (A : Option Addr) : Option Nat := A.map (·.block)
theorem ownBlock_eq (A : Option Addr) (n c : Nat) : (Value.slice A n c).ownBlock = blk A := by cases A <;> rfl
end Go.Proofs.Ytgjopffdgdimlaa

/- Slices of one-cell values of any one kind: what they hold in a world, how that is kept; slices of one's own, made, stored into, appended to. -/
namespace Go.Proofs.Ytgjopffdgdimlaa
open Go.RowKit
set_option maxRecDepth 100000

/-- A slice with address A holds the values l (each by f), in a block below B; of an empty one nothing is asked. -/
def Row {α : Type} (f : α → Value) (w : World) (B : Nat) (A : Option Addr) (l : List α) : Prop :=
  l ≠ [] → ∃ ad, A = some ad ∧ ad.block < B ∧ ∀ i, (h : i < l.length) → w.cell? (ad.add i) = some (f l[i])

namespace Row
variable {α : Type} {f : α → Value} {w w' : World} {B B' : Nat} {A : Option Addr} {l : List α}
theorem nil (f : α → Value) (w : World) (B : Nat) (A : Option Addr) : Row f w B A [] := fun h => absurd rfl h
theorem none_ (h : Row f w B none l) : l = [] := by
  rcases Classical.em (l = []) with e | e
  · exact e
  · obtain ⟨_, e, _⟩ := h e; cases e
theorem get (h : Row f w B A l) {k : Nat} (hk : k < l.length) : ∃ ad, A = some ad ∧ ad.block < B ∧ w.cell? (ad.add k) = some (f l[k]) := by
  obtain ⟨ad, ha, hb, hc⟩ := h (fun e => by subst e; simp at hk)
  exact ⟨ad, ha, hb, hc k hk⟩
theorem keep (h : Row f w B A l) (hk : ∀ p : Addr, p.block < B → w'.cell? p = w.cell? p) : Row f w' B A l := fun hn => by
  obtain ⟨ad, ha, hb, hc⟩ := h hn
  exact ⟨ad, ha, hb, fun i hi => (hk _ (by rw [addr_add_block]; exact hb)).trans (hc i hi)⟩
theorem wide (h : Row f w B A l) (hB : B ≤ B') : Row f w B' A l := fun hn => by
  obtain ⟨ad, ha, hb, hc⟩ := h hn
  exact ⟨ad, ha, Nat.lt_of_lt_of_le hb hB, hc⟩
theorem below (h : Row f w B A l) (hb : Below B w w') : Row f w' B A l := h.keep fun _ hp => hb.cell hp
theorem drewN (h : Row f w B A l) (q : Nat) : Row f (w.drewN q) B A l := h
theorem news {ad : Addr} (h : Row f w B (some ad) l) : ∀ j u, (l.map f)[j]? = some u → w.cell? (ad.add j) = some u := by
  intro j u hu
  have hj : j < l.length := by
    rcases Nat.lt_or_ge j l.length with hlt | hge
    · exact hlt
    · rw [List.getElem?_eq_none (by rw [List.length_map]; exact hge)] at hu; cases hu
  obtain ⟨ad', ha, _, hc⟩ := h (fun e => by subst e; simp at hj)
  cases ha
  rw [hc j hj]
  simp [List.getElem?_eq_getElem hj] at hu
  rw [← hu]
theorem take (h : Row f w B A l) (k : Nat) : Row f w B A (l.take k) := fun hn => by
  obtain ⟨ad, ha, hb, hc⟩ := h (fun e => hn (by subst e; simp))
  exact ⟨ad, ha, hb, fun i hi => by rw [List.getElem_take]; exact hc i (by simp at hi; omega)⟩
theorem drop (h : Row f w B A l) {k cap : Nat} (hk : k ≤ l.length) (hc : l.length ≤ cap) :
    Row f w B (if cap = k then A else A.map (·.add k)) (l.drop k) := fun hn => by
  have hlt : k < l.length := by
    rcases Nat.lt_or_ge k l.length with hlt | hge
    · exact hlt
    · exact absurd (List.drop_eq_nil_of_le hge) hn
  obtain ⟨ad, rfl, hb, hcell⟩ := h (fun e => by subst e; simp at hlt)
  rw [if_neg (by omega)]
  refine ⟨ad.add k, rfl, by rw [addr_add_block]; exact hb, fun i hi => ?_⟩
  rw [addr_add_add, List.getElem_drop]
  exact hcell _ _
end Row

/-- what a kind of element has: one cell, so many bytes -/
structure Elem {α : Type} (f : α → Value) (t e : TypeId) (bytes : Nat) : Prop where
  one : ∀ x, (f x).oneCell' = true
  under : Try.prog.underlying t = some (.slice e)
  info : ∃ i z, Try.prog.info? e = some i ∧ i.zero = some z ∧ i.size = 1 ∧ i.bytes = bytes ∧ z.cells.size = 1

/-- The slice at A, of n values, is l, in a block from 'base' on that nothing else holds. -/
def ROwn {α : Type} (f : α → Value) (e : TypeId) (w : World) (base : Nat) (A : Option Addr) (n c : Nat) (l : List α) : Prop := w.ownsRow base e 1 (.slice A n c) n (l.map f)

namespace ROwn
variable {α : Type} {f : α → Value} {e : TypeId} {w w' : World} {base : Nat} {A : Option Addr} {n c : Nat} {l : List α}
theorem nil (f : α → Value) (e : TypeId) (w : World) (base : Nat) : ROwn f e w base none 0 0 [] := World.ownsRow_nil w base e 1
theorem len (h : ROwn f e w base A n c l) : l.length = n := by have := h.1; rw [List.length_map] at this; omega
theorem lt (h : ROwn f e w base A n c l) {k : Nat} (hk : blk A = some k) : base ≤ k ∧ k < w.heap.size := World.ownsRow.lt h k (by rw [ownBlock_eq]; exact hk)
theorem kept {row : Option Nat} (h : ROwn f e w base A n c l) (hg : w.grownBy w' row) (hne : blk A = none ∨ blk A ≠ row) : ROwn f e w' base A n c l :=
  World.ownsRow.kept h hg (by rw [ownBlock_eq]; exact hne)
theorem alloc (h : ROwn f e w base A n c l) (o : Obj) : ROwn f e (w.alloc o) base A n c l := World.ownsRow.alloc h o
theorem low {b' : Nat} (h : ROwn f e w base A n c l) (hb : b' ≤ base) : ROwn f e w b' A n c l := by
  refine ⟨h.1, ?_⟩
  rcases h.2 with h2 | ⟨g, cap, cur, h1, h2, r⟩
  · exact .inl h2
  · exact .inr ⟨g, cap, cur, h1, Nat.le_trans hb h2, r⟩
theorem below (h : ROwn f e w base A n c l) (hb : Below w.heap.size w w') : ROwn f e w' base A n c l := by
  refine ⟨h.1, ?_⟩
  rcases h.2 with h2 | ⟨g, cap, cur, h1, h2, h3, r⟩
  · exact .inl h2
  · have hlt : g < w.heap.size := by
      rcases Nat.lt_or_ge g w.heap.size with hlt | hge
      · exact hlt
      · rw [Array.getElem?_eq_none hge] at h3; cases h3
    exact .inr ⟨g, cap, cur, h1, h2, (hb.block g hlt).trans h3, r⟩
theorem at_ (h : ROwn f e w base A n c l) (hn : 0 < n) : ∃ g, A = some ⟨g, 0, none⟩ ∧ base ≤ g ∧ g < w.heap.size := by
  obtain ⟨g, cap, hv, hb, hlt⟩ := World.ownsRow.form h hn
  injection hv with h1
  exact ⟨g, h1, hb, hlt⟩
theorem cell {g : Nat} (h : ROwn f e w base (some ⟨g, 0, none⟩) n c l) {k : Nat} (hk : k < l.length) : w.cell? ⟨g, k, none⟩ = some (f l[k]) := by
  have := World.ownsRow.cellAt h k (by rw [Nat.mul_one, ← h.len]; exact hk)
  rw [this]
  simp [List.getElem?_eq_getElem hk]
theorem row (h : ROwn f e w base A n c l) : Row f w w.heap.size A l := fun hn => by
  have hl := h.len
  have h0 : 0 < n := by
    rcases Nat.eq_zero_or_pos n with h0 | h0
    · exact absurd (List.eq_nil_of_length_eq_zero (by omega)) hn
    · exact h0
  obtain ⟨g, rfl, _, hlt⟩ := h.at_ h0
  refine ⟨_, rfl, hlt, fun i hi => ?_⟩
  rw [show (⟨g, 0, none⟩ : Addr).add i = ⟨g, i, none⟩ from by by_cases h : i = 0 <;> simp [Addr.add, h]]
  exact h.cell hi
theorem free {g : Nat} (h : ROwn f e w base (some ⟨g, 0, none⟩) n c l) (k : Nat) : w.frozen? ⟨g, k, none⟩ = false := World.ownsRow.frozenAt h k
theorem store {g : Nat} (h : ROwn f e w base (some ⟨g, 0, none⟩) n c l) (k : Nat) (x : α) : ROwn f e (w.setCell ⟨g, k, none⟩ (f x)) base (some ⟨g, 0, none⟩) n c (l.set k x) := by
  have := (World.ownsRow.stored h k (f x)).1
  unfold ROwn
  rw [show (l.set k x).map f = (l.map f).set k (f x) from by simp]
  exact this
theorem cap (h : ROwn f e w base A n c l) : n ≤ c := by
  rcases h.2 with ⟨_, rfl⟩ | ⟨g, cap, cur, hv, _, _, hnc, _⟩
  · omega
  · injection hv with _ _ h3
    omega
theorem block {g : Nat} (h : ROwn f e w base (some ⟨g, 0, none⟩) n c l) : base ≤ g ∧ g < w.heap.size := h.lt rfl
theorem size {g : Nat} (h : ROwn f e w base (some ⟨g, 0, none⟩) n c l) : base ≤ w.heap.size := by have := h.block; omega
/-- a literal -/
theorem lit (w : World) (base : Nat) (l : List α) (hb : base ≤ w.heap.size) (hm : l.length ≤ maxLen) :
    ROwn f e (w.alloc (.cells (l.map f).toArray e)) base (some ⟨w.heap.size, 0, none⟩) l.length l.length l := by
  have h := World.ownsRow_lit (e := e) (size := 1) w (l.map f).toArray l.length hb hm (by simp)
  exact h
/-- a made slice with nothing in it -/
theorem made (w : World) (base : Nat) (cur : Array Value) (cap : Nat) (hb : base ≤ w.heap.size) (hm : cap ≤ maxLen) (hs : cur.size = cap) :
    ROwn f e (w.alloc (.cells cur e)) base (some ⟨w.heap.size, 0, none⟩) 0 cap [] := World.ownsRow_made w cur cap hb hm (by omega)
end ROwn

set_option maxRecDepth 100000 in
theorem run_append_row {α : Type} {f : α → Value} {t e : TypeId} {bytes : Nat} (E : Elem f t e bytes) (w : World) (base : Nat) (ty : TypeId) (A : Option Addr) (n c : Nat) (l : List α) (hown : ROwn f e w base A n c l)
    (B : Nat) (A2 : Option Addr) (m c2 : Nat) (l2 : List α) (hl2 : l2.length = m) (hb : Row f w B A2 l2) (hbytes : (n + m) * bytes ≤ 140737488355328) (hm : n + m ≤ maxLen) (hbase : base ≤ w.heap.size) :
    ∃ A' c' w', (Builtin.append_ #[t, t] ty #[.slice A n c, .slice A2 m c2]).run Try.prog w = .ok (.slice A' (n + m) c') w' ∧
      ROwn f e w' base A' (n + m) c' (l ++ l2) ∧ w.grownBy w' (blk A) ∧ (blk A' = blk A ∨ blk A' = some w.heap.size) := by
  obtain ⟨i0, z, hi0, hz0, hz1, hz2, hzc⟩ := E.info
  rcases A2 with _ | ad
  · have hm := hb.none_
    subst hm
    obtain rfl : 0 = m := by simpa using hl2
    refine ⟨A, c, w, ?_, by simpa using hown, World.grownBy.refl w _, .inl rfl⟩
    rcases hown.2 with ⟨hv, rfl⟩ | ⟨g, cap, cur, hv, _, _, hnc, _⟩
    · injection hv with h1 _ h3
      subst h1 h3
      simp [Builtin.append_, run_underlying E.under, sizeOf, typeInfo, hi0, Builtin.lenOf, Builtin.firstCells]
    · injection hv with h1 h2 h3
      subst h1 h3
      simp [Builtin.append_, run_underlying E.under, sizeOf, typeInfo, hi0, Builtin.lenOf, Builtin.firstCells, hnc, storeCells]
  · obtain ⟨v', w', hrun, h2, h3, _, h5⟩ := run_append_own_at (P := Try.prog) w base t ty e i0 z 1 bytes E.under hi0 hz0 hz1 hz2 hzc (by omega) (.slice A n c) n (l.map f) hown
      ad m c2 (l2.map f) (by rw [List.length_map]; omega) hb.news (by intro u hu; obtain ⟨x, _, rfl⟩ := List.mem_map.1 hu; exact E.one x) hm hbytes hbase
    rw [← List.map_append] at h2
    rw [ownBlock_eq] at h3 h5
    rcases h2.2 with ⟨rfl, h0⟩ | ⟨g, cap, cur, rfl, _⟩
    · refine ⟨none, 0, w', ?_, ?_, h3, h5⟩
      · rw [h0]; exact hrun
      · unfold ROwn; rw [h0] at h2 ⊢; exact h2
    · exact ⟨_, cap, w', hrun, h2, h3, h5⟩

theorem wpList_append_row {α : Type} {f : α → Value} {t e : TypeId} {bytes : Nat} (E : Elem f t e bytes) {w : World} {ops : Array Oper} {rest : List Oper} {o : Oper} {a : Act} {Q : Exit → Act → World → Prop} (hw : Region.wanted o (yielded ops a.tmps) = true) (s x : Operand)
    (ho : o.op = .call { callee := .builtin .append, args := #[s, x], argTypes := #[t, t] })
    (base : Nat) (A : Option Addr) (n c : Nat) (l : List α) (hs : a.eval s = .slice A n c) (hown : ROwn f e w base A n c l)
    (B : Nat) (A2 : Option Addr) (m c2 : Nat) (l2 : List α) (hx : a.eval x = .slice A2 m c2) (hl2 : l2.length = m) (hb : Row f w B A2 l2) (hbytes : (n + m) * bytes ≤ 140737488355328) (hm : n + m ≤ maxLen) (hbase : base ≤ w.heap.size)
    (h : ∀ A' c' w', ROwn f e w' base A' (n + m) c' (l ++ l2) → w.grownBy w' (blk A) → (blk A' = blk A ∨ blk A' = some w.heap.size) → wpList Try.prog ops Q rest (a.put o.dst (.slice A' (n + m) c')) w') :
    wpList Try.prog ops Q (o :: rest) a w := by
  obtain ⟨A', c', w', hrun, h2, h3, h4⟩ := run_append_row E w base o.type A n c l hown B A2 m c2 l2 hl2 hb hbytes hm hbase
  refine wpList_step fun K hK => ?_
  rw [if_pos hw]
  unfold Oper.wp execOp
  simp only [ho, resolve, invoke, builtin, Sem.run_bind, Sem.run_pure, Result.andThen_ok, List.map_toArray, List.map_cons, List.map_nil, hs, hx, hrun]
  exact hK _ _ (h A' c' w' h2 h3 h4)
end Go.Proofs.Ytgjopffdgdimlaa

/- What every law shares, whatever it takes: the program laid out; how much a slice holds. -/
namespace Go.Proofs.Ytgjopffdgdimlaa
open Go.ChangeShapes Go.WideShapes Go.ChangeAt Go.RowKit
set_option maxRecDepth 100000

theorem own : ownKnob Try.prog.godebug = none := by kernel_rfl
theorem laidOut : laidOutB Try.prog = true := by kernel_rfl
/-- how much a byte slice counts -/
theorem bulk_one {H : Type} (d : DataW H) : 1 ≤ Rows.uptoBulk d := by
  cases d with
  | lit l => cases l <;> simp [Rows.uptoBulk]
  | _ => simp [Rows.uptoBulk]
theorem bulk_all {H : Type} : ∀ l : List (DataW H), l.length ≤ Rows.uptoBulkAll l
  | [] => by simp [Rows.uptoBulkAll]
  | d :: r => by
    have h1 := bulk_one d
    have h2 := bulk_all r
    simp only [Rows.uptoBulkAll, List.length_cons]
    omega
theorem bulk_le {H : Type} {d : DataW H} {n : Nat} (h : d = .nil ∧ n = 0 ∨ ∃ elems spare, d = .slice elems spare ∧ elems.length = n) : n + 1 ≤ Rows.uptoBulk d := by
  rcases h with ⟨rfl, rfl⟩ | ⟨elems, spare, rfl, rfl⟩
  · simp [Rows.uptoBulk]
  · have := bulk_all elems
    simp only [Rows.uptoBulk]
    omega
end Go.Proofs.Ytgjopffdgdimlaa

/- Slices of uint64: what they hold, made, and those that come in. -/
namespace Go.Proofs.Ytgjopffdgdimlaa
open Go.ChangeShapes Go.WideShapes Go.ChangeAt Go.RowKit
set_option maxRecDepth 100000

/-- a number as a value -/
def uval (x : UInt64) : Value := .int .u64 (x.toNat : Int)
theorem u64_info : (Try.prog.info? 54).map (fun i => (i.zero, i.size, i.bytes)) = some (some (.int .u64 0), 1, 8) := by kernel_rfl
theorem cells64 : Try.prog.cellsOf 54 = 1 := by kernel_rfl
theorem bytes64 : Try.prog.bytesOf 54 = 8 := by kernel_rfl
theorem elem64 : Elem uval 49 54 8 := ⟨fun _ => rfl, Try.underlying49, by
  obtain ⟨i0, hi0, hz0, hz1, hz2⟩ := info_parts u64_info
  exact ⟨i0, _, hi0, hz0, hz1, hz2, rfl⟩⟩
/-- A slice with address A holds the numbers l, in a block below B. -/
abbrev Nums (w : World) (B : Nat) (A : Option Addr) (l : List UInt64) : Prop := Row uval w B A l
/-- The slice at A, of n numbers, is l, in a block from 'base' on that nothing else holds. -/
abbrev NOwn (w : World) (base : Nat) (A : Option Addr) (n c : Nat) (l : List UInt64) : Prop := ROwn uval 54 w base A n c l


theorem run_make_nums (n : Nat) (hn : n ≤ 1000000) (w : World) :
    (Instr.makeSlice 49 (.int .i64 (n : Int)) (.int .i64 (n : Int))).run Try.prog w = .ok (.slice (some ⟨w.heap.size, 0, none⟩) n n) (w.alloc (.cells (madeCells #[.int .u64 0] n) 54)) :=
  run_make_row' 49 54 (.int .u64 0) 8 Try.underlying49 u64_info rfl .i64 .i64 n (by omega) (by omega) w
theorem own_nums (w : World) (n : Nat) (hn : n ≤ maxLen) : NOwn (w.alloc (.cells (madeCells #[.int .u64 0] n) 54)) w.heap.size (some ⟨w.heap.size, 0, none⟩) n n (List.replicate n 0) := by
  have h := World.ownsRow_lit (e := 54) (size := 1) w (madeCells #[.int .u64 0] n) n (Nat.le_refl _) hn (by rw [size_madeCells]; omega)
  rw [toList_madeCells_one] at h
  unfold NOwn ROwn
  rw [show (List.replicate n (0 : UInt64)).map uval = List.replicate n (.int .u64 0) from by simp [uval]]
  exact h

theorem num_of_int {z : Int} (h : (Lit.int .u64 z).wf = true) : ((UInt64.ofNat z.toNat).toNat : Int) = z := by
  have hb := bounds_u64 h
  rw [UInt64.toNat_ofNat']
  omega
/-- A slice of numbers that came in: its numbers, and how it is read. -/
theorem open_nums {H : Type} {enc : TypeId × Value → H} {W : World} {a : Option Addr} {len cap : Nat} {d : DataW H} {p : List MemPlace}
    (h : DataW.Trod enc Try.prog W 0 (fun _ => true) true 49 (.slice a len cap) d p) :
    ∃ l : List UInt64, l.length = len ∧ len ≤ cap ∧ Nums W W.heap.size a l ∧ (d = .nil ∧ len = 0 ∨ ∃ elems spare, d = .slice elems spare ∧ elems.length = len) := by
  obtain ⟨fuel, hf⟩ := h
  rcases open_ints Try.underlying49 Try.underlying54 cells64 hf with ⟨hcs, hx⟩ | ⟨x, l, c, zs, hcs, _, hl, hm, hz, hx, hcell, hwz⟩
  · simp [Value.cells] at hcs
    obtain ⟨rfl, rfl, rfl⟩ := hcs
    injection hx with hx1 hx2
    exact ⟨[], rfl, Nat.le_refl _, Row.nil _ _ _ _, .inl ⟨hx1, rfl⟩⟩
  · simp [Value.cells] at hcs
    obtain ⟨rfl, rfl, rfl⟩ := hcs
    injection hx with hx1 hx2
    simp only [if_true] at hz
    refine ⟨(zs.take len).map fun z => UInt64.ofNat z.toNat, by simp; omega, hl, fun hn => ⟨x, rfl, ?_, fun i hi => ?_⟩, .inr ⟨_, _, hx1, by simp [lits]; omega⟩⟩
    · have h0 : 0 < zs.length := by
        rcases Nat.eq_zero_or_pos zs.length with h0 | h0
        · have : zs = [] := List.eq_nil_of_length_eq_zero h0
          subst this
          simp at hn
        · exact h0
      have hc0 := hcell 0 h0
      rcases Nat.lt_or_ge x.block W.heap.size with hlt' | hge
      · exact hlt'
      · have : (x.add 0).block = x.block := addr_add_block x 0
        simp [World.cell?, this, Array.getElem?_eq_none hge] at hc0
    · have hi' : i < zs.length := by simp at hi; omega
      rw [hcell i hi']
      have hw := hwz zs[i] (List.getElem_mem hi')
      simp only [List.getElem_map, List.getElem_take, uval, num_of_int hw]
      simp [List.getD_eq_getElem?_getD, List.getElem?_eq_getElem hi']
/-- THE REACH: a slice of numbers that came in has fewer than 2^44 numbers. -/
theorem reach_nums {H : Type} {ts : List TypeId} {ds : List (DataW H)} {j len : Nat} {d : DataW H} (h : (DataW.weightsEach Try.prog ts ds).all (· ≤ reachBytes) = true)
    (ht : ts[j]? = some 49) (hd : ds[j]? = some d) (hv : d = .nil ∧ len = 0 ∨ ∃ elems spare, d = .slice elems spare ∧ elems.length = len) : 8 * len ≤ 140737488351232 := by
  rcases hv with ⟨_, rfl⟩ | ⟨elems, spare, rfl, rfl⟩
  · omega
  · have := sized_slice h ht hd Try.underlying49
    rw [bytes64] at this
    simp only [reachBytes] at this
    omega
end Go.Proofs.Ytgjopffdgdimlaa

/- Slices of int: what they hold, made, and those that come in. -/
namespace Go.Proofs.Ytgjopffdgdimlaa
open Go.ChangeShapes Go.WideShapes Go.ChangeAt Go.RowKit
set_option maxRecDepth 100000

/-- an integer as a value -/
def ival (z : Int) : Value := .int .i64 z
theorem i64_info : (Try.prog.info? 3).map (fun i => (i.zero, i.size, i.bytes)) = some (some (.int .i64 0), 1, 8) := by kernel_rfl
theorem cellsI : Try.prog.cellsOf 3 = 1 := by kernel_rfl
theorem bytesI : Try.prog.bytesOf 3 = 8 := by kernel_rfl
theorem elemI : Elem ival 43 3 8 := ⟨fun _ => rfl, Try.underlying43, by
  obtain ⟨i0, hi0, hz0, hz1, hz2⟩ := info_parts i64_info
  exact ⟨i0, _, hi0, hz0, hz1, hz2, rfl⟩⟩
abbrev Ints (w : World) (B : Nat) (A : Option Addr) (l : List Int) : Prop := Row ival w B A l
abbrev IOwn (w : World) (base : Nat) (A : Option Addr) (n c : Nat) (l : List Int) : Prop := ROwn ival 3 w base A n c l
/-- do all fit in an int? -/
def Fits64 (l : List Int) : Prop := ∀ z ∈ l, -9223372036854775808 ≤ z ∧ z ≤ 9223372036854775807
theorem iown_none (w : World) (base : Nat) : IOwn w base none 0 0 [] := ROwn.nil _ _ w base
theorem iown_lit1 (w : World) (z : Int) : IOwn (w.alloc (.cells #[.int .i64 z] 3)) w.heap.size (some ⟨w.heap.size, 0, none⟩) 1 1 [z] := by
  have h1 := ROwn.lit (f := ival) (e := 3) w w.heap.size [z] (Nat.le_refl _) (by simp [maxLen])
  exact h1
theorem run_make_ints (n : Nat) (hn : n ≤ 1000000) (w : World) :
    (Instr.makeSlice 43 (.int .i64 (n : Int)) (.int .i64 (n : Int))).run Try.prog w = .ok (.slice (some ⟨w.heap.size, 0, none⟩) n n) (w.alloc (.cells (madeCells #[.int .i64 0] n) 3)) :=
  run_make_row' 43 3 (.int .i64 0) 8 Try.underlying43 i64_info rfl .i64 .i64 n (by omega) (by omega) w
theorem own_ints (w : World) (n : Nat) (hn : n ≤ maxLen) : IOwn (w.alloc (.cells (madeCells #[.int .i64 0] n) 3)) w.heap.size (some ⟨w.heap.size, 0, none⟩) n n (List.replicate n 0) := by
  have h := World.ownsRow_lit (e := 3) (size := 1) w (madeCells #[.int .i64 0] n) n (Nat.le_refl _) hn (by rw [size_madeCells]; omega)
  rw [toList_madeCells_one] at h
  unfold IOwn ROwn
  rw [show (List.replicate n (0 : Int)).map ival = List.replicate n (.int .i64 0) from by simp [ival]]
  exact h

/-- A slice of integers that came in: its integers, and how it is read. -/
theorem open_intsI {H : Type} {enc : TypeId × Value → H} {W : World} {a : Option Addr} {len cap : Nat} {d : DataW H} {p : List MemPlace}
    (h : DataW.Trod enc Try.prog W 0 (fun _ => true) true 43 (.slice a len cap) d p) :
    ∃ l : List Int, l.length = len ∧ len ≤ cap ∧ Fits64 l ∧ Ints W W.heap.size a l ∧ (d = .nil ∧ len = 0 ∨ ∃ elems spare, d = .slice elems spare ∧ elems.length = len) := by
  obtain ⟨fuel, hf⟩ := h
  rcases open_ints Try.underlying43 Try.underlying3 cellsI hf with ⟨hcs, hx⟩ | ⟨x, l, c, zs, hcs, _, hl, hm, hz, hx, hcell, hwz⟩
  · simp [Value.cells] at hcs
    obtain ⟨rfl, rfl, rfl⟩ := hcs
    injection hx with hx1 hx2
    exact ⟨[], rfl, Nat.le_refl _, (fun _ h => by cases h), Row.nil _ _ _ _, .inl ⟨hx1, rfl⟩⟩
  · simp [Value.cells] at hcs
    obtain ⟨rfl, rfl, rfl⟩ := hcs
    injection hx with hx1 hx2
    simp only [if_true] at hz
    refine ⟨zs.take len, by simp; omega, hl, (fun z hz' => by have := bounds_i64 (hwz z (List.mem_of_mem_take hz')); omega), fun hn => ⟨x, rfl, ?_, fun i hi => ?_⟩, .inr ⟨_, _, hx1, by simp [lits]; omega⟩⟩
    · have h0 : 0 < zs.length := by
        rcases Nat.eq_zero_or_pos zs.length with h0 | h0
        · have : zs = [] := List.eq_nil_of_length_eq_zero h0
          subst this
          simp at hn
        · exact h0
      have hc0 := hcell 0 h0
      rcases Nat.lt_or_ge x.block W.heap.size with hlt' | hge
      · exact hlt'
      · have : (x.add 0).block = x.block := addr_add_block x 0
        simp [World.cell?, this, Array.getElem?_eq_none hge] at hc0
    · have hi' : i < zs.length := by simp at hi; omega
      rw [hcell i hi']
      simp only [List.getElem_take, ival]
      simp [List.getD_eq_getElem?_getD, List.getElem?_eq_getElem hi']
theorem reach_intsI {H : Type} {ts : List TypeId} {ds : List (DataW H)} {j len : Nat} {d : DataW H} (h : (DataW.weightsEach Try.prog ts ds).all (· ≤ reachBytes) = true)
    (ht : ts[j]? = some 43) (hd : ds[j]? = some d) (hv : d = .nil ∧ len = 0 ∨ ∃ elems spare, d = .slice elems spare ∧ elems.length = len) : 8 * len ≤ 140737488351232 := by
  rcases hv with ⟨_, rfl⟩ | ⟨elems, spare, rfl, rfl⟩
  · omega
  · have := sized_slice h ht hd Try.underlying43
    rw [bytesI] at this
    simp only [reachBytes] at this
    omega

theorem iown_one (w : World) (z : Int) : IOwn (w.alloc (.cells #[.int .i64 z] 3)) w.heap.size (some ⟨w.heap.size, 0, none⟩) 1 1 [z] := by
  have h1 := ROwn.lit (f := ival) (e := 3) w w.heap.size [z] (Nat.le_refl _) (by simp [maxLen])
  exact h1

end Go.Proofs.Ytgjopffdgdimlaa

/- A byte slice of a call's own: how it is made, appended to, and kept. -/
namespace Go.Proofs.Ytgjopffdgdimlaa
open Go.RowKit
set_option maxRecDepth 100000

theorem byte_info : (Try.prog.info? 5).map (fun i => (i.zero, i.size, i.bytes)) = some (some (.int .u8 0), 1, 1) := by kernel_rfl

/-- The slice at A, of n bytes, is the bytes l, in a block from 'base' on that nothing else holds. -/
def Own (w : World) (base : Nat) (A : Option Addr) (n c : Nat) (l : List UInt8) : Prop := w.ownsRow base 5 1 (.slice A n c) n (bvals l)


namespace Own
variable {w w' : World} {base : Nat} {A : Option Addr} {n c : Nat} {l : List UInt8}
theorem len (h : Own w base A n c l) : l.length = n := by have := h.1; rw [bvals_length] at this; omega
theorem bytes (h : Own w base A n c l) : Bytes w w.heap.size A l := Bytes.of_own h
theorem lt (h : Own w base A n c l) {k : Nat} (hk : blk A = some k) : base ≤ k ∧ k < w.heap.size := World.ownsRow.lt h k (by rw [ownBlock_eq]; exact hk)
theorem kept {row : Option Nat} (h : Own w base A n c l) (hg : w.grownBy w' row) (hne : blk A = none ∨ blk A ≠ row) : Own w' base A n c l :=
  World.ownsRow.kept h hg (by rw [ownBlock_eq]; exact hne)
theorem drew (h : Own w base A n c l) : Own w.drew base A n c l := h
theorem alloc (h : Own w base A n c l) (o : Obj) : Own (w.alloc o) base A n c l := World.ownsRow.alloc h o
theorem low {b' : Nat} (h : Own w base A n c l) (hb : b' ≤ base) : Own w b' A n c l := by
  refine ⟨h.1, ?_⟩
  rcases h.2 with h2 | ⟨g, cap, cur, h1, h2, r⟩
  · exact .inl h2
  · exact .inr ⟨g, cap, cur, h1, Nat.le_trans hb h2, r⟩
theorem below (h : Own w base A n c l) (hb : Below w.heap.size w w') : Own w' base A n c l := by
  refine ⟨h.1, ?_⟩
  rcases h.2 with h2 | ⟨g, cap, cur, h1, h2, h3, r⟩
  · exact .inl h2
  · have hlt : g < w.heap.size := by
      rcases Nat.lt_or_ge g w.heap.size with hlt | hge
      · exact hlt
      · rw [Array.getElem?_eq_none hge] at h3; cases h3
    exact .inr ⟨g, cap, cur, h1, h2, (hb.block g hlt).trans h3, r⟩
end Own

/-- where it lies, if it isn't empty -/
theorem Own.at_ {w : World} {base : Nat} {A : Option Addr} {n c : Nat} {l : List UInt8} (h : Own w base A n c l) (hn : 0 < n) : ∃ g, A = some ⟨g, 0, none⟩ ∧ base ≤ g ∧ g < w.heap.size := by
  obtain ⟨g, cap, hv, hb, hlt⟩ := World.ownsRow.form h hn
  injection hv with h1
  exact ⟨g, h1, hb, hlt⟩
theorem Own.cell {w : World} {base g : Nat} {n c : Nat} {l : List UInt8} (h : Own w base (some ⟨g, 0, none⟩) n c l) {k : Nat} (hk : k < l.length) : w.cell? ⟨g, k, none⟩ = some (.int .u8 (l[k].toNat : Int)) := by
  have := World.ownsRow.cellAt h k (by rw [Nat.mul_one, ← h.len]; exact hk)
  rw [this]
  simp [bvals, List.getElem?_eq_getElem hk, bval]
theorem Own.free {w : World} {base g : Nat} {n c : Nat} {l : List UInt8} (h : Own w base (some ⟨g, 0, none⟩) n c l) (k : Nat) : w.frozen? ⟨g, k, none⟩ = false := World.ownsRow.frozenAt h k
/-- a byte stored -/
theorem Own.store {w : World} {base g : Nat} {n c : Nat} {l : List UInt8} (h : Own w base (some ⟨g, 0, none⟩) n c l) (k : Nat) (b : UInt8) :
    Own (w.setCell ⟨g, k, none⟩ (bval b)) base (some ⟨g, 0, none⟩) n c (l.set k b) := by
  have := (World.ownsRow.stored h k (bval b)).1
  unfold Own
  rw [show bvals (l.set k b) = (bvals l).set k (bval b) from by simp [bvals]]
  exact this

/-- nil -/
theorem own_none (w : World) (base : Nat) : Own w base none 0 0 [] := World.ownsRow_nil w base _ _
/-- a made slice with nothing in it -/
theorem own_made (w : World) (base : Nat) (cur : Array Value) (cap : Nat) (hb : base ≤ w.heap.size) (hm : cap ≤ maxLen) (hs : cur.size = cap) :
    Own (w.alloc (.cells cur 5)) base (some ⟨w.heap.size, 0, none⟩) 0 cap [] := World.ownsRow_made w cur cap hb hm (by omega)
/-- a literal -/
theorem own_lit (w : World) (base : Nat) (l : List UInt8) (hb : base ≤ w.heap.size) (hm : l.length ≤ maxLen) :
    Own (w.alloc (.cells (bvals l).toArray 5)) base (some ⟨w.heap.size, 0, none⟩) l.length l.length l := by
  have h := World.ownsRow_lit (e := 5) (size := 1) w (bvals l).toArray l.length hb hm (by simp [bvals])
  exact h

set_option maxRecDepth 100000 in
theorem run_append_bytes (w : World) (base : Nat) (ty : TypeId) (A : Option Addr) (n c : Nat) (l : List UInt8) (hown : Own w base A n c l)
    (B : Nat) (A2 : Option Addr) (m c2 : Nat) (l2 : List UInt8) (hl2 : l2.length = m) (hb : Bytes w B A2 l2) (hbytes : n + m ≤ 140737488355328) (hbase : base ≤ w.heap.size) :
    ∃ A' c' w', (Builtin.append_ #[22, 22] ty #[.slice A n c, .slice A2 m c2]).run Try.prog w = .ok (.slice A' (n + m) c') w' ∧
      Own w' base A' (n + m) c' (l ++ l2) ∧ w.grownBy w' (blk A) ∧ (blk A' = blk A ∨ blk A' = some w.heap.size) := by
  obtain ⟨i0, hi0, hz0, hz1, hz2⟩ := info_parts byte_info
  rcases A2 with _ | ad
  · have hm : l2 = [] := by
      rcases Classical.em (l2 = []) with h | h
      · exact h
      · obtain ⟨_, h, _⟩ := hb h; cases h
    subst hm
    obtain rfl : 0 = m := by simpa using hl2
    refine ⟨A, c, w, ?_, by simpa using hown, World.grownBy.refl w _, .inl rfl⟩
    rcases hown.2 with ⟨hv, rfl⟩ | ⟨g, cap, cur, hv, _, _, hnc, _⟩
    · injection hv with h1 _ h3
      subst h1 h3
      simp [Builtin.append_, run_underlying Try.underlying22, sizeOf, typeInfo, hi0, Builtin.lenOf, Builtin.firstCells]
    · injection hv with h1 h2 h3
      subst h1 h3
      simp [Builtin.append_, run_underlying Try.underlying22, sizeOf, typeInfo, hi0, Builtin.lenOf, Builtin.firstCells, hnc, storeCells]
  · obtain ⟨v', w', hrun, h2, h3, _, h5⟩ := run_append_own_at (P := Try.prog) w base 22 ty 5 i0 _ 1 1 Try.underlying22 hi0 hz0 hz1 hz2 rfl (by omega) (.slice A n c) n (bvals l) hown
      ad m c2 (bvals l2) (by rw [bvals_length]; omega) hb.news (bvals_one l2) (by simp only [maxLen]; omega) (by omega) hbase
    rw [← bvals_append] at h2
    rw [ownBlock_eq] at h3 h5
    rcases h2.2 with ⟨rfl, h0⟩ | ⟨g, cap, cur, rfl, _⟩
    · refine ⟨none, 0, w', ?_, ?_, h3, h5⟩
      · rw [h0]; exact hrun
      · unfold Own; rw [h0] at h2 ⊢; exact h2
    · exact ⟨_, cap, w', hrun, h2, h3, h5⟩

theorem wpList_append_bytes {w : World} {ops : Array Oper} {rest : List Oper} {o : Oper} {a : Act} {Q : Exit → Act → World → Prop} (hw : Region.wanted o (yielded ops a.tmps) = true) (s x : Operand)
    (ho : o.op = .call { callee := .builtin .append, args := #[s, x], argTypes := #[22, 22] })
    (base : Nat) (A : Option Addr) (n c : Nat) (l : List UInt8) (hs : a.eval s = .slice A n c) (hown : Own w base A n c l)
    (B : Nat) (A2 : Option Addr) (m c2 : Nat) (l2 : List UInt8) (hx : a.eval x = .slice A2 m c2) (hl2 : l2.length = m) (hb : Bytes w B A2 l2) (hbytes : n + m ≤ 140737488355328) (hbase : base ≤ w.heap.size)
    (h : ∀ A' c' w', Own w' base A' (n + m) c' (l ++ l2) → w.grownBy w' (blk A) → (blk A' = blk A ∨ blk A' = some w.heap.size) → wpList Try.prog ops Q rest (a.put o.dst (.slice A' (n + m) c')) w') :
    wpList Try.prog ops Q (o :: rest) a w := by
  obtain ⟨A', c', w', hrun, h2, h3, h4⟩ := run_append_bytes w base o.type A n c l hown B A2 m c2 l2 hl2 hb hbytes hbase
  refine wpList_step fun K hK => ?_
  rw [if_pos hw]
  unfold Oper.wp execOp
  simp only [ho, resolve, invoke, builtin, Sem.run_bind, Sem.run_pure, Result.andThen_ok, List.map_toArray, List.map_cons, List.map_nil, hs, hx, hrun]
  exact hK _ _ (h A' c' w' h2 h3 h4)
end Go.Proofs.Ytgjopffdgdimlaa

/- A byte slice of one's own with room: made, and appended to in its place. -/
namespace Go.Proofs.Ytgjopffdgdimlaa
open Go.RowKit
set_option maxRecDepth 100000

theorem run_make_bytes (c : Nat) (hc : c ≤ 281474976710656) (u : World) :
    (Instr.makeSlice 22 (.int .i64 0) (.int .i64 (c : Int))).run Try.prog u = .ok (.slice (some ⟨u.heap.size, 0, none⟩) 0 c) (u.alloc (.cells (madeCells #[.int .u8 0] c) 5)) := by
  obtain ⟨i0, hi, hz0, hz1, hz2⟩ := info_parts byte_info
  have h := run_make (P := Try.prog) u 22 5 i0 (.int .u8 0) Try.underlying22 hi hz0 .i64 .i64 0 (c : Int) (by omega) (by omega) (by rw [hz2]; omega) (by omega)
  simpa [hz1, Value.cells] using h

theorem bval_ofNat (x : Nat) : bval (UInt8.ofNat x) = .int .u8 ((x : Int) % 256) := by
  unfold bval
  rw [UInt8.toNat_ofNat']
  exact congrArg _ (by omega)
theorem bval_small {x : Nat} (h : x < 256) : bval (UInt8.ofNat x) = .int .u8 (x : Int) := by
  rw [bval_ofNat]
  exact congrArg _ (by omega)
/-- a literal of one byte -/
theorem own_one (w : World) (b : UInt8) (z : Int) (h : bval b = .int .u8 z) : Own (w.alloc (.cells #[.int .u8 z] 5)) w.heap.size (some ⟨w.heap.size, 0, none⟩) 1 1 [b] := by
  have := own_lit w w.heap.size [b] (Nat.le_refl _) (by simp only [maxLen, List.length_singleton]; omega)
  simp only [bvals, List.map_cons, List.map_nil, h] at this
  exact this

set_option maxRecDepth 100000 in
theorem run_append_fit (w : World) (base : Nat) (ty : TypeId) (g n c : Nat) (l : List UInt8) (hown : Own w base (some ⟨g, 0, none⟩) n c l)
    (B : Nat) (A2 : Option Addr) (m c2 : Nat) (l2 : List UInt8) (hl2 : l2.length = m) (hb : Bytes w B A2 l2) (hroom : n + m ≤ c) :
    ∃ w', (Builtin.append_ #[22, 22] ty #[.slice (some ⟨g, 0, none⟩) n c, .slice A2 m c2]).run Try.prog w = .ok (.slice (some ⟨g, 0, none⟩) (n + m) c) w' ∧
      Own w' base (some ⟨g, 0, none⟩) (n + m) c (l ++ l2) ∧ w.grownBy w' (some g) := by
  obtain ⟨i0, hi0, hz0, hz1, hz2⟩ := info_parts byte_info
  rcases A2 with _ | ad
  · have hm : l2 = [] := by
      rcases Classical.em (l2 = []) with h | h
      · exact h
      · obtain ⟨_, h, _⟩ := hb h; cases h
    subst hm
    obtain rfl : 0 = m := by simpa using hl2
    refine ⟨w, ?_, by simpa using hown, World.grownBy.refl w _⟩
    rcases hown.2 with ⟨hv, rfl⟩ | ⟨g', cap, cur, hv, _, _, hnc, _⟩
    · cases hv
    · injection hv with h1 h2 h3
      subst h3
      simp [Builtin.append_, run_underlying Try.underlying22, sizeOf, typeInfo, hi0, Builtin.lenOf, Builtin.firstCells, hnc, storeCells]
  · obtain ⟨w', hrun, h2, h3⟩ := run_append_fits (P := Try.prog) w base 22 ty 5 i0 1 Try.underlying22 hi0 hz1 g n c (bvals l) hown
      ad m c2 (bvals l2) (by rw [bvals_length]; omega) hb.news (bvals_one l2) hroom
    rw [← bvals_append] at h2
    exact ⟨w', hrun, h2, h3⟩

theorem wpList_append_fit {w : World} {ops : Array Oper} {rest : List Oper} {o : Oper} {a : Act} {Q : Exit → Act → World → Prop} (hw : Region.wanted o (yielded ops a.tmps) = true) (s x : Operand)
    (ho : o.op = .call { callee := .builtin .append, args := #[s, x], argTypes := #[22, 22] })
    (base : Nat) (g n c : Nat) (l : List UInt8) (hs : a.eval s = .slice (some ⟨g, 0, none⟩) n c) (hown : Own w base (some ⟨g, 0, none⟩) n c l)
    (B : Nat) (A2 : Option Addr) (m c2 : Nat) (l2 : List UInt8) (hx : a.eval x = .slice A2 m c2) (hl2 : l2.length = m) (hb : Bytes w B A2 l2) (hroom : n + m ≤ c)
    (h : ∀ w', Own w' base (some ⟨g, 0, none⟩) (n + m) c (l ++ l2) → w.grownBy w' (some g) → wpList Try.prog ops Q rest (a.put o.dst (.slice (some ⟨g, 0, none⟩) (n + m) c)) w') :
    wpList Try.prog ops Q (o :: rest) a w := by
  obtain ⟨w', hrun, h2, h3⟩ := run_append_fit w base o.type g n c l hown B A2 m c2 l2 hl2 hb hroom
  refine wpList_step fun K hK => ?_
  rw [if_pos hw]
  unfold Oper.wp execOp
  simp only [ho, resolve, invoke, builtin, Sem.run_bind, Sem.run_pure, Result.andThen_ok, List.map_toArray, List.map_cons, List.map_nil, hs, hx, hrun]
  exact hK _ _ (h w' h2 h3)

/-- where it lies -/
theorem Own.block {w : World} {base g n c : Nat} {l : List UInt8} (h : Own w base (some ⟨g, 0, none⟩) n c l) : base ≤ g ∧ g < w.heap.size := h.lt rfl
theorem Own.cap {w : World} {base n c : Nat} {A : Option Addr} {l : List UInt8} (h : Own w base A n c l) : n ≤ c := by
  rcases h.2 with ⟨hv, hn⟩ | ⟨g', cap, cur, hv, _, _, hnc, _⟩
  · omega
  · injection hv with h1 h2 h3
    omega
theorem Own.size {w : World} {base g n c : Nat} {l : List UInt8} (h : Own w base (some ⟨g, 0, none⟩) n c l) : base ≤ w.heap.size := by have := h.block; omega
end Go.Proofs.Ytgjopffdgdimlaa

/- math/bits.Len64: how many bits a number has. -/
namespace Go.Proofs.Ytgjopffdgdimlaa
open Go.RowKit
set_option maxRecDepth 100000

/-- the end of each way: k bits were shifted out, a byte is left -/
theorem len_end {v : Nat} (k : Nat) (q : Int) (hv : v < 18446744073709551616) (h : 2 ^ k ≤ v) (hq : q = ((v / 2 ^ k : Nat) : Int)) (hz : v / 2 ^ k < 256)
    (hk : k ≤ 56) : wrap64 ((k : Int) + wrap64 (Lib.len8 q)) = (Lib.bitLen v : Int) := by
  rw [Lib.bitLen_shift k v h (by omega)]
  generalize v / 2 ^ k = y at hq hz
  subst hq
  have h8 := Lib.bitLen_le8 ⟨y, hz⟩
  simp only at h8
  rw [Lib.len8_of _ (by omega) (by omega), Int.toNat_natCast]
  unfold wrap64
  omega
theorem len_end0 {v : Nat} (hz : v < 256) : Lib.len8 (v : Int) = (Lib.bitLen v : Int) ∧ Lib.bitLen v ≤ 8 := by
  have h8 := Lib.bitLen_le8 ⟨v, hz⟩
  exact ⟨by rw [Lib.len8_of _ (by omega) (by omega), Int.toNat_natCast], h8⟩
theorem bitLen_le64 {v : Nat} (hv : v < 18446744073709551616) : Lib.bitLen v ≤ 64 := Lib.bitLen_le v 64 (Nat.le_refl _) (by omega)

set_option maxHeartbeats 1000000 in
theorem len64_any (v : Nat) (w : World) (hv : v < 18446744073709551616) :
    Calls Try.prog 69 #[.int .u64 (v : Int)] w fun e w' => e = .returned (.int .i64 (Lib.bitLen v : Int)) ∧ w = w' := by
  obtain ⟨x, hx, h0, h1⟩ : ∃ x : Int, x = (v : Int) ∧ 0 ≤ x ∧ x ≤ 18446744073709551615 := ⟨v, rfl, by omega, by omega⟩
  rw [← hx]
  have Hx := Lib.hid hx; clear hx
  have Hv := Lib.hid hv; clear hv
  go_enter Try.func69, Try.ntmps69
  conv in Value.string _ => change Value.string Lib.len8tab
  have hidx := fun (i : Int) (u : World) => Lib.run_index_len8tab (P := Try.prog) u 9 .u8 i Try.underlying9
  generalize Value.string Lib.len8tab = T at hidx ⊢
  go_wp2
  all_goals rw [hidx _ _ (by omega) (by omega)]
  all_goals go_wp2
  all_goals go_ret
  all_goals refine ⟨congrArg Ending.returned (congrArg (Value.int IntKind.i64) ?_), rfl⟩
  all_goals clear hidx
  all_goals have hx := Hx.out
  all_goals have hv := Hv.out
  all_goals subst hx
  · exact len_end 56 _ hv (by omega) (by omega) (by omega) (by omega)
  · exact len_end 48 _ hv (by omega) (by omega) (by omega) (by omega)
  · exact len_end 40 _ hv (by omega) (by omega) (by omega) (by omega)
  · exact len_end 32 _ hv (by omega) (by omega) (by omega) (by omega)
  · exact len_end 24 _ hv (by omega) (by omega) (by omega) (by omega)
  · exact len_end 16 _ hv (by omega) (by omega) (by omega) (by omega)
  · exact len_end 8 _ hv (by omega) (by omega) (by omega) (by omega)
  · obtain ⟨e1, e2⟩ := len_end0 (v := v) (by omega)
    rw [e1]
    unfold wrap64
    omega
end Go.Proofs.Ytgjopffdgdimlaa

/- num.encodedSize -/
namespace Go.Proofs.Ytgjopffdgdimlaa
open Go.RowKit
set_option maxRecDepth 100000

/-- num.encodedSize -/
theorem encodedSize_any (v : Nat) (w : World) (hv : v < 18446744073709551616) :
    Calls Try.prog 53 #[.int .u64 (v : Int)] w fun e w' => e = .returned (.int .i64 (Num.size v : Int)) ∧ w = w' := by
  have H := Lib.hid (len64_any v w hv)
  have hs : Num.size v = if v ≤ 247 then 1 else 1 + (Lib.bitLen v + 7) / 8 := rfl
  have hle := bitLen_le64 hv
  obtain ⟨x, hx, h0, h1⟩ : ∃ x : Int, x = (v : Int) ∧ 0 ≤ x ∧ x ≤ 18446744073709551615 := ⟨v, rfl, by omega, by omega⟩
  rw [← hx] at H ⊢
  generalize Num.size v = s at hs
  generalize Lib.bitLen v = B at hs hle H
  by_cases hc : v ≤ 247
  · rw [if_pos hc] at hs
    subst hs
    have hc' : x ≤ 247 := by omega
    clear hx hv h1
    go_enter Try.func53, Try.ntmps53
    go_wp2
    go_ret
    exact ⟨rfl, rfl⟩
  · rw [if_neg hc] at hs
    subst hs
    have hc' : 247 < x := by omega
    clear hx hv hc
    go_enter Try.func53, Try.ntmps53
    go_wp2_with fail
    refine H.out.mono ?_
    rintro e w1 ⟨rfl, rfl⟩
    clear H
    go_wp2
    go_ret
    refine ⟨congrArg (fun z => Ending.returned (.int .i64 z)) ?_, rfl⟩
    omega
end Go.Proofs.Ytgjopffdgdimlaa

/- num.Fold, num.Unfold and the document's: integers as numbers. -/
namespace Go.Proofs.Ytgjopffdgdimlaa
open Go.RowKit
set_option maxRecDepth 100000

theorem fold_nonneg {n : Int} (h : 0 ≤ n) : (Num.fold n : Int) = 2 * n := by unfold Num.fold; rw [if_pos h]; omega
theorem fold_neg {n : Int} (h : n < 0) : (Num.fold n : Int) = -2 * n - 1 := by unfold Num.fold; rw [if_neg (by omega)]; omega
theorem unfold_even {v : Nat} {x : Int} (hx : x = (v : Int)) (h : x % 2 = 0) : Num.unfold v = x / 2 := by unfold Num.unfold; rw [if_pos (by omega)]; omega
theorem unfold_odd {v : Nat} {x : Int} (hx : x = (v : Int)) (h : x % 2 = 1) : Num.unfold v = -(x / 2) - 1 := by unfold Num.unfold; rw [if_neg (by omega)]; omega

theorem fold_any (n : Int) (w : World) (h0 : -9223372036854775808 ≤ n) (h1 : n ≤ 9223372036854775807) :
    Calls Try.prog 54 #[.int .i64 n] w fun e w' => e = .returned (.int .u64 (Num.fold n : Int)) ∧ w = w' := by
  by_cases hn : n < 0
  · rw [fold_neg hn]
    go_enter Try.func54, Try.ntmps54
    go_wp2
    go_ret
    refine ⟨congrArg (fun z => Ending.returned (.int .u64 z)) ?_, rfl⟩
    omega
  · rw [fold_nonneg (by omega)]
    have hn' : 0 ≤ n := by omega
    go_enter Try.func54, Try.ntmps54
    go_wp2
    go_ret
    refine ⟨congrArg (fun z => Ending.returned (.int .u64 z)) ?_, rfl⟩
    omega
theorem refFold_any (n : Int) (w : World) (h0 : -9223372036854775808 ≤ n) (h1 : n ≤ 9223372036854775807) :
    Calls Try.prog 73 #[.int .i64 n] w fun e w' => e = .returned (.int .u64 (Num.fold n : Int)) ∧ w = w' := by
  by_cases hn : n < 0
  · rw [fold_neg hn]
    go_enter Try.func73, Try.ntmps73
    go_wp2
    go_ret
    refine ⟨congrArg (fun z => Ending.returned (.int .u64 z)) ?_, rfl⟩
    omega
  · rw [fold_nonneg (by omega)]
    have hn' : 0 ≤ n := by omega
    go_enter Try.func73, Try.ntmps73
    go_wp2
    go_ret
    refine ⟨congrArg (fun z => Ending.returned (.int .u64 z)) ?_, rfl⟩
    omega
theorem unfold_any (v : Nat) (w : World) (hv : v < 18446744073709551616) :
    Calls Try.prog 64 #[.int .u64 (v : Int)] w fun e w' => e = .returned (.int .i64 (Num.unfold v)) ∧ w = w' := by
  obtain ⟨x, hx, h0, h1⟩ : ∃ x : Int, x = (v : Int) ∧ 0 ≤ x ∧ x ≤ 18446744073709551615 := ⟨v, rfl, by omega, by omega⟩
  rw [← hx]
  rcases Int.emod_two_eq x with h | h
  · rw [unfold_even hx h]
    clear hx hv
    go_enter Try.func64, Try.ntmps64
    go_wp2
    go_ret
    refine ⟨congrArg (fun z => Ending.returned (.int .i64 z)) ?_, rfl⟩
    omega
  · rw [unfold_odd hx h]
    clear hx hv
    go_enter Try.func64, Try.ntmps64
    go_wp2
    go_ret
    refine ⟨congrArg (fun z => Ending.returned (.int .i64 z)) ?_, rfl⟩
    omega
theorem refUnfold_any (v : Nat) (w : World) (hv : v < 18446744073709551616) :
    Calls Try.prog 79 #[.int .u64 (v : Int)] w fun e w' => e = .returned (.int .i64 (Num.unfold v)) ∧ w = w' := by
  obtain ⟨x, hx, h0, h1⟩ : ∃ x : Int, x = (v : Int) ∧ 0 ≤ x ∧ x ≤ 18446744073709551615 := ⟨v, rfl, by omega, by omega⟩
  rw [← hx]
  rcases Int.emod_two_eq x with h | h
  · rw [unfold_even hx h]
    clear hx hv
    go_enter Try.func79, Try.ntmps79
    go_wp2
    go_ret
    refine ⟨congrArg (fun z => Ending.returned (.int .i64 z)) ?_, rfl⟩
    omega
  · rw [unfold_odd hx h]
    clear hx hv
    go_enter Try.func79, Try.ntmps79
    go_wp2
    go_ret
    refine ⟨congrArg (fun z => Ending.returned (.int .i64 z)) ?_, rfl⟩
    omega
end Go.Proofs.Ytgjopffdgdimlaa

/- num.copyWithRoom, num.appendNumber, num.Put, num.PutInt, num.PutRow. -/
namespace Go.Proofs.Ytgjopffdgdimlaa
open Go.RowKit
set_option maxRecDepth 100000

theorem copyWithRoom_any (A : Option Addr) (n cap B m : Nat) (l : List UInt8) (w : World) (hl : l.length = n) (hn : n + m ≤ 281474976710656) (hb : Bytes w B A l) (hB : B ≤ w.heap.size) :
    Calls Try.prog 52 #[.slice A n cap, .int .i64 (m : Int)] w fun e w' => ∃ g, e = .returned (.slice (some ⟨g, 0, none⟩) n (n + m)) ∧ Own w' w.heap.size (some ⟨g, 0, none⟩) n (n + m) l ∧ Below w.heap.size w w' := by
  have Hl := Lib.hid hl; clear hl
  have hmk := run_make_bytes (n + m) (by omega)
  rw [show ((n + m : Nat) : Int) = (n : Int) + (m : Int) from by omega] at hmk
  have ho1 : Own (w.alloc (.cells (madeCells #[.int .u8 0] (n + m)) 5)) w.heap.size (some ⟨w.heap.size, 0, none⟩) 0 (n + m) [] :=
    own_made w w.heap.size _ (n + m) (Nat.le_refl _) (by simp only [maxLen]; omega) (size_madeCells _ _)
  have hbel : Below w.heap.size w (w.alloc (.cells (madeCells #[.int .u8 0] (n + m)) 5)) := (Below.refl _ _).alloc (Nat.le_refl _) _
  have hb1 := (hb.wide hB).below hbel
  clear hb
  go_enter Try.func52, Try.ntmps52
  go_wp2_with (at_builtin; refine wpList_append_fit rfl (.tmp 9) (.tmp 10) rfl w.heap.size _ 0 (n + m) [] rfl ho1 _ A n cap l rfl Hl.out hb1 (by omega) ?_; intro w1 ho2 hg2)
  go_ret
  rw [Nat.zero_add] at ho2
  exact ⟨w.heap.size, by simp, ho2, hbel.grown hg2 (by simp) (fun k hk => by cases hk; exact Nat.le_refl _)⟩

theorem byte_at {v k : Nat} {x : Int} (hx : x = (v : Int)) : bval (UInt8.ofNat (v / 256 ^ k)) = .int .u8 (x / 2 ^ (8 * k) % 256) := by
  rw [bval_ofNat, hx, Int.pow_mul, Int.natCast_ediv, Int.natCast_pow]
  rfl

set_option maxHeartbeats 1000000 in
theorem appendNumber_any (g n c base v : Nat) (l : List UInt8) (w : World) (hv : v < 18446744073709551616) (hown : Own w base (some ⟨g, 0, none⟩) n c l) (hroom : n + Num.size v ≤ c) :
    Calls Try.prog 51 #[.slice (some ⟨g, 0, none⟩) n c, .int .u64 (v : Int)] w fun e w' =>
      e = .returned (.slice (some ⟨g, 0, none⟩) (n + Num.size v) c) ∧ Own w' base (some ⟨g, 0, none⟩) (n + Num.size v) c (l ++ Num.num v) ∧ Below base w w' := by
  have hbase := hown.size
  have hblk := hown.block.1
  obtain ⟨x, hx, h0, h1⟩ : ∃ x : Int, x = (v : Int) ∧ 0 ≤ x ∧ x ≤ 18446744073709551615 := ⟨v, rfl, by omega, by omega⟩
  by_cases hs : v ≤ 247
  · have hone := own_one w (UInt8.ofNat v) x (by rw [bval_small (by omega), hx])
    have ho1 := hown.alloc (.cells #[.int .u8 x] 5)
    have hbel : Below base w (w.alloc (.cells #[.int .u8 x] 5)) := (Below.refl _ _).alloc hbase _
    have hsz : Num.size v = 1 := by unfold Num.size; rw [if_pos hs]
    have hnum : Num.num v = [UInt8.ofNat v] := by unfold Num.num; rw [if_pos hs]
    rw [hsz] at hroom ⊢
    rw [hnum, ← hx]
    have hs' : x ≤ 247 := by omega
    have hb1 := hone.bytes
    clear hx hv hs h1 hsz hnum hone
    go_enter Try.func51, Try.ntmps51
    go_wp2_with (at_builtin; refine wpList_append_fit rfl (.tmp 9) (.tmp 12) rfl base g n c l rfl ho1 _ _ 1 1 [UInt8.ofNat v] rfl rfl hb1 hroom ?_; intro w1 ho2 hg2)
    go_ret
    exact ⟨rfl, ho2, hbel.grown hg2 (by simp; omega) (fun k hk => by cases hk; exact hblk)⟩
  · have hK1 := Num.width_pos (v := v) (by omega) hv
    have hK8 := Num.width_le8 hv
    have hsz : Num.size v = 1 + Num.width v := by unfold Num.size; rw [if_neg hs]
    have hnum : Num.num v = UInt8.ofNat (247 + Num.width v) :: Num.le (Num.width v) v := by unfold Num.num; rw [if_neg hs]
    have H := Lib.hid (encodedSize_any v w hv)
    rw [hsz] at hroom H ⊢
    rw [← hx] at H ⊢
    generalize hK : Num.width v = K at *
    have hone := own_one w (UInt8.ofNat (247 + K)) (247 + (1 + (K : Int) - 1)) (by rw [bval_small (by omega)]; exact congrArg _ (by omega))
    have ho1 := hown.alloc (.cells #[.int .u8 (247 + (1 + (K : Int) - 1))] 5)
    have hbel : Below base w (w.alloc (.cells #[.int .u8 (247 + (1 + (K : Int) - 1))] 5)) := (Below.refl _ _).alloc hbase _
    have hb1 := hone.bytes
    have hs' : 247 < x := by omega
    have Hnum := Lib.hid hnum
    have Hx := Lib.hid hx
    have Hv := Lib.hid hv
    clear hx hv hs hsz hnum hone hK
    go_enter Try.func51, Try.ntmps51
    go_wp2_with fail
    refine H.out.mono ?_
    rintro e w0 ⟨rfl, rfl⟩
    clear H
    go_wp2_with (at_builtin; refine wpList_append_fit rfl (.tmp 17) (.tmp 21) rfl base g n c l rfl ho1 _ _ 1 1 [UInt8.ofNat (247 + K)] rfl rfl hb1 (by omega) ?_; intro w1 ho2 hg2)
    have hbel1 := hbel.grown hg2 (by simp; omega) (fun k hk => by cases hk; exact hblk)
    clear hb1 ho1 hown hg2
    go_loopw [0, 24] (fun s i wr => ∃ (k : Nat), k ≤ K ∧ i = .int .i64 k ∧ s = .slice (some ⟨g, 0, none⟩) (n + 1 + k) c ∧ Own wr base (some ⟨g, 0, none⟩) (n + 1 + k) c (l ++ [UInt8.ofNat (247 + K)] ++ Num.le k v) ∧ Below base w wr) (fun _ i _ => K - (intOf i).toNat)
    case atStart => exact ⟨0, by omega, rfl, rfl, by simpa [Num.le] using ho2, hbel1⟩
    case round =>
      obtain ⟨k, hk, rfl, rfl, ho, hb⟩ := hrel
      by_cases hlt : k < K
      · have hone := own_one wr (UInt8.ofNat (v / 256 ^ k)) (x / 2 ^ (8 * k) % 256) (byte_at Hx.out)
        have hb1 := hone.bytes
        have ho1 := ho.alloc (.cells #[.int .u8 (x / 2 ^ (8 * k) % 256)] 5)
        have hbel2 : Below base wr (wr.alloc (.cells #[.int .u8 (x / 2 ^ (8 * k) % 256)] 5)) := (Below.refl _ _).alloc ho.size _
        have hsz := ho.size
        clear hone ho
        go_wp2_with (at_builtin; refine wpList_append_fit rfl (.tmp 27) (.tmp 33) rfl base g (n + 1 + k) c _ rfl ho1 _ _ 1 1 [UInt8.ofNat (v / 256 ^ k)] rfl rfl hb1 (by omega) ?_; intro w2 ho3 hg3)
        have hbw2 := hbel2.grown hg3 (by simp; omega) (fun k hk => by cases hk; exact hblk)
        rw [List.append_assoc, ← Num.le_snoc] at ho3
        go_roundw
        case rel => exact ⟨k + 1, by omega, by go_num, rfl, ho3, hb.trans hbw2⟩
        case measure => simp [intOf]; omega
      · obtain rfl : k = K := by omega
        go_wp2
        go_ret
        rw [List.append_assoc, List.singleton_append, ← Hnum.out, Nat.add_assoc] at ho
        exact ⟨congrArg (fun m => Ending.returned (.slice (some ⟨g, 0, none⟩) m c)) (by omega), ho, hb⟩

/-- what a call leaves that returns a new byte slice: where it lies is known -/
def MadeIn (base : Nat) (w : World) (n : Nat) (l : List UInt8) (e : Ending) (w' : World) : Prop :=
  ∃ g c, e = .returned (.slice (some ⟨g, 0, none⟩) n c) ∧ Own w' base (some ⟨g, 0, none⟩) n c l ∧ Below base w w'

set_option maxHeartbeats 400000 in
theorem put_any (A : Option Addr) (n cap B v : Nat) (l : List UInt8) (w : World) (hl : l.length = n) (hv : v < 18446744073709551616) (hn : n ≤ 140737488355328) (hb : Bytes w B A l) (hB : B ≤ w.heap.size) :
    Calls Try.prog 28 #[.slice A n cap, .int .u64 (v : Int)] w (MadeIn w.heap.size w (n + Num.size v) (l ++ Num.num v)) := by
  have h9 := Num.size_le9 hv
  have H1 := Lib.hid (encodedSize_any v w hv)
  have H2 := Lib.hid (copyWithRoom_any A n cap B (Num.size v) l w hl (by omega) hb hB)
  have H3 := Lib.hid fun g c w' => appendNumber_any g n c w.heap.size v l w' hv
  generalize Num.size v = s at *
  generalize Num.num v = N at *
  obtain ⟨x, hx⟩ : ∃ x : Int, x = (v : Int) := ⟨v, rfl⟩
  rw [← hx] at H1 H3 ⊢
  clear hx hv hb hB
  go_enter Try.func28, Try.ntmps28
  go_wp2_with fail
  refine H1.out.mono ?_
  rintro e w1 ⟨rfl, rfl⟩
  go_wp2_with fail
  refine H2.out.mono ?_
  rintro e w1 ⟨g, rfl, ho, hb⟩
  clear H1 H2
  go_wp2_with fail
  refine (H3.out g (n + s) w1 ho (Nat.le_refl _)).mono ?_
  rintro e w2 ⟨rfl, ho2, hb2⟩
  clear H3
  go_wp2
  go_ret
  exact ⟨g, n + s, rfl, ho2, hb.trans hb2⟩
end Go.Proofs.Ytgjopffdgdimlaa

/- dragnetref02.Bytes, Int and Row: the document's encodings. -/
namespace Go.Proofs.Ytgjopffdgdimlaa
open Go.RowKit
set_option maxRecDepth 100000

theorem Num.pow_le {v k : Nat} (hv : v < 18446744073709551616) (hk : k < Num.width v) : 256 ^ k ≤ v := by
  rcases Nat.lt_or_ge v (256 ^ k) with hlt | hge
  · have h8 := Num.width_le8 hv
    have := Num.width_le (by omega) hlt
    omega
  · exact hge

theorem run_index_own (g m c i : Nat) (hi : i < m) (u : World) : (Instr.indexAt 22 (.slice (some ⟨g, 0, none⟩) m c) (.int .i64 (i : Int))).run Try.prog u = .ok (.pointer (some ⟨g, i, none⟩)) u := by
  obtain ⟨i0, hi0, hz0, hz1, hz2⟩ := info_parts byte_info
  have he : Try.prog.elem 22 = 5 := by kernel_rfl
  rw [run_indexAt_slice _ _ _ _ _ _ _ Try.underlying22, if_pos ⟨by omega, by omega⟩, he]
  by_cases h0 : i = 0 <;> simp [sizeOf, typeInfo, hi0, hz1, Addr.add, h0]

set_option maxHeartbeats 1000000 in
theorem refBytes_any (v : Nat) (w : World) (hv : v < 18446744073709551616) :
    Calls Try.prog 33 #[.int .u64 (v : Int)] w (MadeIn w.heap.size w (Num.size v) (Num.num v)) := by
  obtain ⟨x, hx, h0, h1⟩ : ∃ x : Int, x = (v : Int) ∧ 0 ≤ x ∧ x ≤ 18446744073709551615 := ⟨v, rfl, by omega, by omega⟩
  rw [← hx]
  by_cases hs : v ≤ 247
  · have hone := own_one w (UInt8.ofNat v) x (by rw [bval_small (by omega), hx])
    have hbel : Below w.heap.size w (w.alloc (.cells #[.int .u8 x] 5)) := (Below.refl _ _).alloc (Nat.le_refl _) _
    have hsz : Num.size v = 1 := by unfold Num.size; rw [if_pos hs]
    have hnum : Num.num v = [UInt8.ofNat v] := by unfold Num.num; rw [if_pos hs]
    rw [hsz, hnum]
    have hs' : x ≤ 247 := by omega
    clear hx hv hs h1 hsz hnum
    go_enter Try.func33, Try.ntmps33
    go_wp2
    go_ret
    exact ⟨_, _, rfl, hone, hbel⟩
  · have hK8 := Num.width_le8 hv
    have hsz : Num.size v = 1 + Num.width v := by unfold Num.size; rw [if_neg hs]
    have hnum : Num.num v = UInt8.ofNat (247 + Num.width v) :: Num.le (Num.width v) v := by unfold Num.num; rw [if_neg hs]
    have hlt := Num.lt_width hv
    have hge := fun k => Num.pow_le (v := v) (k := k) hv
    rw [hsz, hnum]
    generalize Num.width v = K at *
    have hone := own_one w (247 : UInt8) 247 rfl
    have hbel : Below w.heap.size w (w.alloc (.cells #[.int .u8 247] 5)) := (Below.refl _ _).alloc (Nat.le_refl _) _
    have hs' : 247 < x := by omega
    have Hx := Lib.hid hx
    have Hlt := Lib.hid hlt
    have Hge := Lib.hid hge
    clear hx hv hs hsz hnum hlt hge
    go_enter Try.func33, Try.ntmps33
    go_wp2
    go_loopw [0, 3] (fun y s wr => ∃ (k : Nat) (z : Int) (A : Option Addr) (c : Nat), k ≤ K ∧ y = .int .u64 z ∧ z = ((v / 256 ^ k : Nat) : Int) ∧ 0 ≤ z ∧ z ≤ 18446744073709551615 ∧ s = .slice A (k + 1) c ∧ Own wr w.heap.size A (k + 1) c (UInt8.ofNat (247 + k) :: Num.le k v) ∧ Below w.heap.size w wr) (fun y _ _ => (intOf y).toNat)
    case atStart => exact ⟨0, x, _, _, by omega, rfl, by rw [Hx.out]; simp, h0, h1, rfl, hone, hbel⟩
    case round =>
      obtain ⟨k, z, A, c, hk, rfl, hz, hz0, hz1, rfl, ho, hb⟩ := hrel
      have Hz := Lib.hid hz; clear hz
      by_cases hlt : k < K
      · have hpos : 0 < z := by
          have h1 := Hge.out k hlt
          have h2 : 0 < v / 256 ^ k := Nat.div_pos h1 (Nat.pow_pos (by omega))
          rw [Hz.out]; omega
        have hone := own_one wr (UInt8.ofNat (v / 256 ^ k)) (z % 256) (by rw [bval_ofNat, Hz.out])
        have hb1 := hone.bytes
        have ho1 := ho.alloc (.cells #[.int .u8 (z % 256)] 5)
        have hbel2 : Below w.heap.size w (wr.alloc (.cells #[.int .u8 (z % 256)] 5)) := hb.alloc hb.size _
        have hsz : w.heap.size ≤ (wr.alloc (.cells #[.int .u8 (z % 256)] 5)).heap.size := hbel2.size
        clear hone ho
        go_wp2_with (at_builtin; refine wpList_append_bytes rfl (.tmp 12) (.tmp 16) rfl w.heap.size A (k + 1) c _ rfl ho1 _ _ 1 1 [UInt8.ofNat (v / 256 ^ k)] rfl rfl hb1 (by omega) hsz ?_; intro A2 c2 w2 ho3 hg3 hat3)
        have hbw2 := hbel2.grown hg3 hsz (fun k hk => (ho1.lt hk).1)
        rw [List.cons_append, ← Num.le_snoc] at ho3
        obtain ⟨g, rfl, hg1, hg2⟩ := ho3.at_ (by omega)
        have hcell := ho3.cell (k := 0) (by simp)
        simp only [List.getElem_cons_zero, Num.toNat_ofNat, Nat.mod_eq_of_lt (show 247 + k < 256 by omega)] at hcell
        have hfree := ho3.free 0
        have hst := ho3.store 0 (UInt8.ofNat (247 + (k + 1)))
        rw [bval_small (by omega), List.set_cons_zero] at hst
        rw [show ((247 + (k + 1) : Nat) : Int) = 247 + (k : Int) + 1 from by omega] at hst
        rw [show ((247 + k : Nat) : Int) = 247 + (k : Int) from by omega] at hcell
        have Hst := Lib.hid hst
        have Hbl := Lib.hid (hbw2.setCell (p := ⟨g, 0, none⟩) hg1 (.int .u8 (247 + (k : Int) + 1)))
        clear hst ho3 ho1 hb1 hg3 hat3 hsz hbel2 hbw2 hg1 hg2
        have hidx := run_index_own g (k + 1 + 1) c2 0 (by omega)
        simp only [Int.natCast_zero] at hidx
        rw [hidx]
        go_wp2
        go_roundw
        case rel => exact ⟨k + 1, z / 256, _, c2, by omega, rfl, by rw [Hz.out, Nat.pow_succ, ← Nat.div_div_eq_div_mul]; omega, by omega, by omega, by go_num, Hst.out, Hbl.out⟩
        case measure => simp [intOf]; omega
      · obtain rfl : k = K := by omega
        have hz : z = 0 := by rw [Hz.out, Nat.div_eq_of_lt Hlt.out]; rfl
        subst hz
        go_wp2
        go_ret
        obtain ⟨g, rfl, _⟩ := ho.at_ (by omega)
        rw [Nat.add_comm k 1] at ho
        exact ⟨g, c, congrArg (fun m => Ending.returned (.slice (some ⟨g, 0, none⟩) m c)) (by omega), ho, hb⟩
end Go.Proofs.Ytgjopffdgdimlaa

/- dragnetref01.Copy: a new slice of the same bytes. -/
namespace Go.Proofs.Ytgjopffdgdimlaa
open Go.RowKit
set_option maxRecDepth 100000

/-- what a call leaves that returns a byte slice of its own (or of its caller's), in a block from 'base' on: just these bytes; all below 'base' is as it was -/
def MadeAt (base : Nat) (w : World) (n : Nat) (l : List UInt8) (e : Ending) (w' : World) : Prop :=
  ∃ A c, e = .returned (.slice A n c) ∧ Own w' base A n c l ∧ Below base w w'

theorem copy_any (A : Option Addr) (n cap B : Nat) (l : List UInt8) (w : World) (hl : l.length = n) (hn : n ≤ 140737488355328) (hb : Bytes w B A l) (hB : B ≤ w.heap.size) :
    Calls Try.prog 10 #[.slice A n cap] w (MadeAt w.heap.size w n l) := by
  have Hl := Lib.hid hl; clear hl
  go_enter Try.func10, Try.ntmps10
  have hb1 : Bytes (w.alloc (.cells #[] 5)) B A l := hb.below ((Below.refl _ _).alloc hB _)
  have ho1 : Own (w.alloc (.cells #[] 5)) w.heap.size (some ⟨w.heap.size, 0, none⟩) 0 0 [] := own_made w w.heap.size #[] 0 (Nat.le_refl _) (by simp only [maxLen]; omega) rfl
  have hbel : Below w.heap.size w (w.alloc (.cells #[] 5)) := (Below.refl _ _).alloc (Nat.le_refl _) _
  clear hb
  go_wp2_with (at_builtin; refine wpList_append_bytes rfl (.tmp 3) (.tmp 4) rfl w.heap.size _ 0 0 [] rfl ho1 B A n cap l rfl Hl.out hb1 (by omega) (by simp) ?_; intro A1 c1 w1 ho2 hg2 hat2)
  go_ret
  rw [Nat.zero_add] at ho2
  refine ⟨A1, c1, by simp, ho2, hbel.grown hg2 (by simp) ?_⟩
  intro k hk
  simp [blk] at hk
  omega
end Go.Proofs.Ytgjopffdgdimlaa

/- dragnetref01.Same: are two byte slices alike? -/
namespace Go.Proofs.Ytgjopffdgdimlaa
open Go.RowKit
set_option maxRecDepth 100000

theorem run_string_of {w : World} {B : Nat} {A : Option Addr} {l : List UInt8} (hb : Bytes w B A l) (c : Nat) :
    (convert 22 9 (.slice A l.length c)).run Try.prog w = .ok (.string ⟨l.toArray⟩) w := by
  rcases A with _ | ad
  · have hl : l = [] := by
      rcases Classical.em (l = []) with h | h
      · exact h
      · obtain ⟨_, h, _⟩ := hb h; cases h
    subst hl
    exact Lib.run_convert_nil_bytes w 22 9 5 c Try.underlying22 Try.underlying5 Try.underlying9
  · refine run_convert_bytes_back w 22 9 5 ad c l Try.underlying22 Try.underlying5 Try.underlying9 fun j hj => ?_
    obtain ⟨ad', h, _, hc⟩ := hb (fun e => by subst e; simp at hj)
    cases h
    exact hc j hj

theorem same_any (A1 A2 : Option Addr) (n1 n2 c1 c2 B1 B2 : Nat) (l1 l2 : List UInt8) (w : World) (hl1 : l1.length = n1) (hl2 : l2.length = n2) (hb1 : Bytes w B1 A1 l1) (hb2 : Bytes w B2 A2 l2) :
    Calls Try.prog 13 #[.slice A1 n1 c1, .slice A2 n2 c2] w fun e w' => e = .returned (.bool (l1 == l2)) ∧ w = w' := by
  have h1 := run_string_of hb1 c1
  have h2 := run_string_of hb2 c2
  rw [hl1] at h1
  rw [hl2] at h2
  clear hl1 hl2 hb1 hb2
  go_enter Try.func13, Try.ntmps13
  go_wp2
  go_ret
  exact ⟨rfl, rfl⟩
end Go.Proofs.Ytgjopffdgdimlaa

/- What every law shares: byte slices that come in, how much they hold. -/
namespace Go.Proofs.Ytgjopffdgdimlaa
open Go.ChangeShapes Go.WideShapes Go.ChangeAt Go.RowKit
set_option maxRecDepth 100000

theorem cells8 : Try.prog.cellsOf 5 = 1 := by kernel_rfl
theorem bytes8 : Try.prog.bytesOf 5 = 1 := by kernel_rfl

/-- numbers that fit a byte, as bytes -/
def bytesOfInts (zs : List Int) : List UInt8 := zs.map fun z => UInt8.ofNat z.toNat
theorem byte_of_int {z : Int} (h : (Lit.int .u8 z).wf = true) : ((UInt8.ofNat z.toNat).toNat : Int) = z := by
  have hb := bounds_u8 h
  rw [UInt8.toNat_ofNat']
  omega

/-- A byte slice that came in: its bytes, and how it is read. -/
theorem open_bytes {H : Type} {enc : TypeId × Value → H} {W : World} {a : Option Addr} {len cap : Nat} {d : DataW H} {p : List MemPlace}
    (h : DataW.Trod enc Try.prog W 0 (fun _ => true) true 22 (.slice a len cap) d p) :
    ∃ l : List UInt8, l.length = len ∧ len ≤ cap ∧ Bytes W W.heap.size a l ∧ (d = .nil ∧ len = 0 ∨ ∃ elems spare, d = .slice elems spare ∧ elems.length = len) := by
  have hlt : ∀ x ∈ p, x.block < W.heap.size := by obtain ⟨m, hm⟩ := h; exact DataW.trod_lt m _ _ _ hm
  obtain ⟨fuel, hf⟩ := h
  rcases open_ints Try.underlying22 Try.underlying5 cells8 hf with ⟨hcs, hx⟩ | ⟨x, l, c, zs, hcs, _, hl, hm, hz, hx, hcell, hwz⟩
  · simp [Value.cells] at hcs
    obtain ⟨rfl, rfl, rfl⟩ := hcs
    injection hx with hx1 hx2
    exact ⟨[], rfl, Nat.le_refl _, Bytes.nil _ _ _, .inl ⟨hx1, rfl⟩⟩
  · simp [Value.cells] at hcs
    obtain ⟨rfl, rfl, rfl⟩ := hcs
    injection hx with hx1 hx2
    simp only [if_true] at hz
    refine ⟨bytesOfInts (zs.take len), by simp [bytesOfInts]; omega, hl, fun hn => ⟨x, rfl, ?_, fun i hi => ?_⟩, .inr ⟨_, _, hx1, by simp [lits]; omega⟩⟩
    · have h0 : 0 < zs.length := by
        rcases Nat.eq_zero_or_pos zs.length with h0 | h0
        · have : zs = [] := List.eq_nil_of_length_eq_zero h0
          subst this
          simp [bytesOfInts] at hn
        · exact h0
      have hc0 := hcell 0 h0
      rcases Nat.lt_or_ge x.block W.heap.size with hlt' | hge
      · exact hlt'
      · have : (x.add 0).block = x.block := addr_add_block x 0
        simp [World.cell?, this, Array.getElem?_eq_none hge] at hc0
    · have hi' : i < zs.length := by simp [bytesOfInts] at hi; omega
      have hil : i < len := by simp [bytesOfInts] at hi; omega
      rw [hcell i hi']
      have hw := hwz zs[i] (List.getElem_mem hi')
      simp only [bytesOfInts, List.getElem_map, List.getElem_take, bval, byte_of_int hw]
      simp [List.getD_eq_getElem?_getD, List.getElem?_eq_getElem hi']

/-- THE REACH: a byte slice that came in has fewer than 2^47 bytes. -/
theorem reach_bytes {H : Type} {ts : List TypeId} {ds : List (DataW H)} {j len : Nat} {d : DataW H} (h : (DataW.weightsEach Try.prog ts ds).all (· ≤ reachBytes) = true)
    (ht : ts[j]? = some 22) (hd : ds[j]? = some d) (hv : d = .nil ∧ len = 0 ∨ ∃ elems spare, d = .slice elems spare ∧ elems.length = len) : len ≤ 140737488351232 := by
  rcases hv with ⟨_, rfl⟩ | ⟨elems, spare, rfl, rfl⟩
  · omega
  · have := sized_slice h ht hd Try.underlying22
    rw [bytes8] at this
    simp only [reachBytes] at this
    omega

end Go.Proofs.Ytgjopffdgdimlaa

/- Pieces of a byte slice. -/
namespace Go.Proofs.Ytgjopffdgdimlaa
open Go.RowKit
set_option maxRecDepth 100000

theorem size8 (W : World) : (sizeOf 5).run Try.prog W = .ok 1 W := by
  obtain ⟨i0, hi0, hz0, hz1, hz2⟩ := info_parts byte_info
  simp [sizeOf, typeInfo, hi0, hz1]
theorem elem22 : Try.prog.elem 22 = 5 := by kernel_rfl
/-- where a piece that begins at lo lies -/
def cutAt (A : Option Addr) (cap lo : Nat) : Option Addr := if cap = lo then A else A.map (·.add lo)
theorem run_cut_lh (A : Option Addr) (n cap lo hi : Nat) (h1 : lo ≤ hi) (h2 : hi ≤ cap) (W : World) :
    (Instr.slice 22 (.slice A n cap) (some (.int .i64 (lo : Int))) (some (.int .i64 (hi : Int))) none).run Try.prog W = .ok (.slice (cutAt A cap lo) (hi - lo) (cap - lo)) W := by
  rw [run_slice_lh (P := Try.prog) (w := W) (kl := .i64) (kh := .i64) (l := (lo : Int)) (h := (hi : Int)) (h0 := by omega) (h1 := by omega) (h2 := by omega) (ht := by rw [elem22]; exact Try.underlying22)]
  rw [elem22, size8]
  simp [Result.andThen, sliced, cutAt]
theorem run_cut_h (A : Option Addr) (n cap hi : Nat) (h2 : hi ≤ cap) (W : World) :
    (Instr.slice 22 (.slice A n cap) none (some (.int .i64 (hi : Int))) none).run Try.prog W = .ok (.slice A hi cap) W := by
  rw [run_slice_h (P := Try.prog) (w := W) (kh := .i64) (h := (hi : Int)) (h0 := by omega) (h2 := by omega) (ht := by rw [elem22]; exact Try.underlying22)]
  rw [elem22, size8]
  by_cases hc : cap = 0 <;> cases A <;> simp [Result.andThen, sliced, Addr.add]
theorem run_cut_l (A : Option Addr) (n cap lo : Nat) (h1 : lo ≤ n) (W : World) :
    (Instr.slice 22 (.slice A n cap) (some (.int .i64 (lo : Int))) none none).run Try.prog W = .ok (.slice (cutAt A cap lo) (n - lo) (cap - lo)) W := by
  rw [run_slice_l (P := Try.prog) (w := W) (kl := .i64) (l := (lo : Int)) (h0 := by omega) (h1 := by omega) (ht := by rw [elem22]; exact Try.underlying22)]
  rw [elem22, size8]
  simp [Result.andThen, sliced, cutAt]
theorem Bytes.cut {w : World} {B : Nat} {A : Option Addr} {l : List UInt8} (h : Bytes w B A l) {k cap : Nat} (hk : k ≤ l.length) (hc : l.length ≤ cap) : Bytes w B (cutAt A cap k) (l.drop k) := h.drop hk hc
end Go.Proofs.Ytgjopffdgdimlaa

/- num.readNumber, num.Take, num.TakeInt; the document's Take. -/
namespace Go.Proofs.Ytgjopffdgdimlaa
open Go.RowKit
set_option maxRecDepth 100000

theorem or_at {Y b k : Nat} {y : Int} (hy : y = (Y : Int)) (hY : Y < 256 ^ k) (hb : b < 256) (hk : k ≤ 7) : bits .or .u64 y (IntKind.u64.wrap ((b : Int) * 2 ^ (8 * k))) = ((Y + b * 256 ^ k : Nat) : Int) := by
  have hp : (256 : Nat) ^ (k + 1) ≤ 18446744073709551616 := Nat.le_trans (Nat.pow_le_pow_right (by omega) (show k + 1 ≤ 8 by omega)) (by decide)
  have h1 : b * 256 ^ k < 256 ^ (k + 1) := by rw [Nat.pow_succ, Nat.mul_comm (256 ^ k)]; exact Nat.mul_lt_mul_of_pos_right hb (Nat.pow_pos (by omega))
  have hY2 : Y < 18446744073709551616 := Nat.lt_of_lt_of_le hY (Nat.le_trans (Nat.pow_le_pow_right (by omega) (show k ≤ 8 by omega)) (by decide))
  have e : (b : Int) * 2 ^ (8 * k) = ((b * 256 ^ k : Nat) : Int) := by rw [Int.natCast_mul, Int.natCast_pow, Int.pow_mul]; rfl
  have hw : IntKind.u64.wrap ((b * 256 ^ k : Nat) : Int) = ((b * 256 ^ k : Nat) : Int) := by
    have : IntKind.u64.wrap ((b * 256 ^ k : Nat) : Int) = ((b * 256 ^ k : Nat) : Int) % 18446744073709551616 := by simp [IntKind.wrap, IntKind.bits, IntKind.signed]
    rw [this]
    omega
  rw [e, hw, hy, u64_or_nat Y (b * 256 ^ k) hY2 (by omega)]
  congr 1
  have h2 : (256 : Nat) ^ k = 2 ^ (8 * k) := by rw [Nat.pow_mul]
  rw [h2] at hY ⊢
  have := Nat.two_pow_add_eq_or_of_lt hY b
  rw [Nat.or_comm, Nat.mul_comm b, ← this]
  omega
theorem Num.val_take_succ {l : List UInt8} {k : Nat} (hk : k < l.length) : Num.val (l.take (k + 1)) = Num.val (l.take k) + l[k].toNat * 256 ^ k := by
  rw [List.take_succ_eq_append_getElem hk, Num.val_snoc, List.length_take, Nat.min_eq_left (by omega)]
theorem Num.val_take_lt {l : List UInt8} {k : Nat} (hk : k ≤ l.length) : Num.val (l.take k) < 256 ^ k := by
  have := Num.val_lt (l.take k)
  rwa [List.length_take, Nat.min_eq_left hk] at this

set_option maxHeartbeats 1000000 in
theorem readNumber_any (A : Option Addr) (n cap B : Nat) (l : List UInt8) (w : World) (hl : l.length = n) (hn : n ≤ 8) (hb : Bytes w B A l) :
    Calls Try.prog 74 #[.slice A n cap] w fun e w' => e = .returned (.int .u64 (Num.val l : Int)) ∧ w = w' := by
  have Hl := Lib.hid hl; clear hl
  go_enter Try.func74, Try.ntmps74
  go_wp2
  go_loopw [3, 8] (fun s i wr => ∃ (k : Nat) (y : Int), k ≤ n ∧ i = .int .i64 k ∧ s = .int .u64 y ∧ y = (Num.val (l.take k) : Int) ∧ w = wr) (fun _ i _ => n - (intOf i).toNat)
  case atStart => exact ⟨0, 0, by omega, rfl, rfl, rfl, rfl⟩
  case round =>
    obtain ⟨k, y, hk, rfl, rfl, hy, rfl⟩ := hrel
    have Hy := Lib.hid hy; clear hy
    by_cases hlt : k < n
    · have hk' : k < l.length := by have := Hl.out; omega
      obtain ⟨ad, rfl, hlt', hcell⟩ := hb.get hk'
      have hb256 : l[k].toNat < 256 := Num.byte_lt _
      have Hor := Lib.hid (or_at Hy.out (Num.val_take_lt (by omega)) hb256 (by omega))
      rw [← Num.val_take_succ hk'] at Hor
      generalize l[k].toNat = b at hcell hb256 Hor
      go_wp2
      go_roundw
      case rel => exact ⟨k + 1, _, by omega, by go_num, rfl, Hor.out, trivial⟩
      case measure => simp [intOf]; omega
    · obtain rfl : k = n := by omega
      go_wp2
      go_ret
      refine ⟨?_, rfl⟩
      rw [Hy.out, List.take_of_length_le (by rw [Hl.out]; exact Nat.le_refl _)]
      rfl

/-- what Take answers -/
def TakePost (w : World) (l : List UInt8) (e : Ending) (w' : World) : Prop :=
  e = .returned (.tuple #[.int .u64 ((Num.take l).1 : Int), .int .i64 ((Num.take l).2.1 : Int), .int .i64 ((Num.take l).2.2 : Int)]) ∧ w = w'

set_option maxHeartbeats 1000000 in
theorem take_any (A : Option Addr) (n cap B : Nat) (l : List UInt8) (w : World) (hl : l.length = n) (hcap : n ≤ cap) (hm : n ≤ 281474976710656) (hb : Bytes w B A l) :
    Calls Try.prog 60 #[.slice A n cap] w (TakePost w l) := by
  rcases l with _ | ⟨x, r⟩
  · obtain rfl : 0 = n := by simpa using hl
    go_enter Try.func60, Try.ntmps60
    go_wp2
    go_ret3
    exact ⟨rfl, rfl⟩
  · have hcell := hb.get (k := 0) (by simp)
    obtain ⟨ad, rfl, hlt, hcell⟩ := hcell
    simp only [List.getElem_cons_zero, Addr.add, if_true] at hcell
    have hx256 := Num.byte_lt x
    have hn1 : r.length + 1 = n := by simpa using hl
    unfold TakePost
    rw [Num.take_cons]
    by_cases h1 : x.toNat ≤ 247
    · rw [if_pos h1]
      clear hb hl
      generalize x.toNat = b at *
      go_enter Try.func60, Try.ntmps60
      go_wp2
      go_ret3
      exact ⟨rfl, rfl⟩
    · rw [if_neg h1]
      obtain ⟨k, hk⟩ : ∃ k, x.toNat = 247 + k := ⟨x.toNat - 247, by omega⟩
      rw [hk, show ((247 + k : Nat) : Int) = 247 + (k : Int) from by omega] at hcell
      rw [hk, show 247 + k - 247 = k from by omega]
      have hk1 : 1 ≤ k := by omega
      have hk8 : k ≤ 8 := by omega
      have hn0 : 0 < n := by omega
      clear h1 hx256 hk
      by_cases h2 : r.length < k
      · rw [if_pos h2]
        have h2' : n < 1 + k := by omega
        clear hb hl h2 hn1
        go_enter Try.func60, Try.ntmps60
        go_wp2
        go_ret3
        exact ⟨rfl, rfl⟩
      · rw [if_neg h2]
        have hbc := (hb.cut (k := 1) (cap := cap) (by simp) (by omega)).take k
        rw [List.drop_succ_cons, List.drop_zero] at hbc
        have hlen : (r.take k).length = k := by simp; omega
        have hvl := Num.val_lt (r.take k)
        rw [hlen] at hvl
        have hv : Num.val (r.take k) < 18446744073709551616 := Nat.lt_of_lt_of_le hvl (Nat.le_trans (Nat.pow_le_pow_right (by omega) hk8) (by decide))
        have hsl := run_cut_lh (some ad) n cap 1 (1 + k) (by omega) (by omega)
        rw [show 1 + k - 1 = k from by omega, show ((1 + k : Nat) : Int) = 1 + (247 + (k : Int) - 247) from by omega, Int.natCast_one] at hsl
        have H1 := Lib.hid (readNumber_any (cutAt (some ad) cap 1) k (cap - 1) B _ w hlen hk8 hbc)
        generalize cutAt (some ad) cap 1 = A' at hsl H1
        have H2 := Lib.hid (encodedSize_any _ w hv)
        have h9 := Num.size_le9 hv
        have hnk : 1 + k ≤ n := by omega
        clear hb hl hbc hlen hvl hv h2 hn1
        generalize Num.size (Num.val (r.take k)) = s at *
        generalize Num.val (r.take k) = V at *
        obtain ⟨y, hy⟩ : ∃ y : Int, y = (V : Int) := ⟨_, rfl⟩
        rw [← hy] at H1 H2
        by_cases h3 : s = 1 + k
        · rw [if_pos h3, ← hy]
          subst h3
          clear hy
          go_enter Try.func60, Try.ntmps60
          go_wp2_with fail
          refine H1.out.mono ?_
          rintro e w1 ⟨rfl, rfl⟩
          clear H1
          go_wp2_with fail
          refine H2.out.mono ?_
          rintro e w1 ⟨rfl, rfl⟩
          clear H2 hsl
          go_wp2
          go_ret3
          exact ⟨by go_num, rfl⟩
        · rw [if_neg h3]
          clear hy
          have h3' : ¬ ((s : Int) = 1 + (247 + (k : Int) - 247)) := by omega
          go_enter Try.func60, Try.ntmps60
          go_wp2_with fail
          refine H1.out.mono ?_
          rintro e w1 ⟨rfl, rfl⟩
          clear H1
          go_wp2_with fail
          refine H2.out.mono ?_
          rintro e w1 ⟨rfl, rfl⟩
          clear H2 hsl
          go_wp2
          go_ret3
          exact ⟨rfl, rfl⟩
end Go.Proofs.Ytgjopffdgdimlaa

/- num.TakeInt; the document's Take. -/
namespace Go.Proofs.Ytgjopffdgdimlaa
open Go.RowKit
set_option maxRecDepth 100000

/-- what the document's Take answers -/
def RefTakePost (w : World) (l : List UInt8) (e : Ending) (w' : World) : Prop :=
  e = .returned (.tuple #[.int .u64 ((Num.take l).1 : Int), .int .i64 ((Num.take l).2.1 : Int), .int .i64 ((Num.take l).2.2 : Int)]) ∧ Below w.heap.size w w'

theorem Num.val_drop {l : List UInt8} {i : Nat} (hi : i < l.length) : Num.val (l.drop i) = Num.val (l.drop (i + 1)) * 256 + l[i].toNat := by
  rw [List.drop_eq_getElem_cons hi, Num.val]
  omega

set_option maxHeartbeats 1000000 in
theorem refTake_any (A : Option Addr) (n cap B : Nat) (l : List UInt8) (w : World) (hl : l.length = n) (hm : n ≤ 281474976710656) (hb : Bytes w B A l) :
    Calls Try.prog 39 #[.slice A n cap] w (RefTakePost w l) := by
  rcases l with _ | ⟨x, r⟩
  · obtain rfl : 0 = n := by simpa using hl
    go_enter Try.func39, Try.ntmps39
    go_wp2
    go_ret3
    exact ⟨rfl, Below.refl _ _⟩
  · have hcell := hb.get (k := 0) (by simp)
    obtain ⟨ad, rfl, hlt, hcell⟩ := hcell
    simp only [List.getElem_cons_zero, Addr.add, if_true] at hcell
    have hx256 := Num.byte_lt x
    have hn1 : r.length + 1 = n := by simpa using hl
    unfold RefTakePost
    rw [Num.take_cons]
    by_cases h1 : x.toNat ≤ 247
    · rw [if_pos h1]
      clear hb hl
      generalize x.toNat = b at *
      go_enter Try.func39, Try.ntmps39
      go_wp2
      go_ret3
      exact ⟨rfl, Below.refl _ _⟩
    · rw [if_neg h1]
      obtain ⟨k, hk⟩ : ∃ k, x.toNat = 247 + k := ⟨x.toNat - 247, by omega⟩
      rw [hk, show ((247 + k : Nat) : Int) = 247 + (k : Int) from by omega] at hcell
      rw [hk, show 247 + k - 247 = k from by omega]
      have hk1 : 1 ≤ k := by omega
      have hk8 : k ≤ 8 := by omega
      have hn0 : 0 < n := by omega
      clear h1 hx256 hk
      by_cases h2 : r.length < k
      · rw [if_pos h2]
        have h2' : n < 1 + k := by omega
        clear hb hl h2 hn1
        go_enter Try.func39, Try.ntmps39
        go_wp2
        go_ret3
        exact ⟨rfl, Below.refl _ _⟩
      · rw [if_neg h2]
        have hlen : (r.take k).length = k := by simp; omega
        have hvl := Num.val_lt (r.take k)
        rw [hlen] at hvl
        have hv : Num.val (r.take k) < 18446744073709551616 := Nat.lt_of_lt_of_le hvl (Nat.le_trans (Nat.pow_le_pow_right (by omega) hk8) (by decide))
        have H2 := Lib.hid (refBytes_any _ w hv)
        have h9 := Num.size_le9 hv
        have hnk : 1 + k ≤ n := by omega
        have hat : ∀ i, i < k → w.cell? (ad.add (i + 1)) = some (.int .u8 ((((r.take k)[i]?.getD 0).toNat : Nat) : Int)) := fun i hi => by
          obtain ⟨ad', e, _, hc⟩ := hb.get (k := i + 1) (by simp; omega)
          cases e
          rw [hc, List.getElem?_eq_getElem (by omega), Option.getD_some, List.getElem_take]
          rfl
        have Hat := Lib.hid hat
        clear hb hl h2 hn1 hvl hat
        generalize r.take k = t at *
        have Hlen := Lib.hid hlen; clear hlen
        clear hv
        generalize hT : (if Num.size (Num.val t) = 1 + k then (Num.val t, 1 + k, 0) else (0, 0, 2)) = T
        have HT := Lib.hid hT; clear hT
        go_enter Try.func39, Try.ntmps39
        go_wp2
        go_loopw [6, 7] (fun s i wr => ∃ (j : Nat) (y : Int), j ≤ k ∧ i = .int .i64 j ∧ s = .int .u64 y ∧ y = (Num.val (t.drop j) : Int) ∧ w = wr) (fun _ i _ => (intOf i).toNat)
        case atStart => exact ⟨k, 0, Nat.le_refl _, by go_num, rfl, by rw [List.drop_of_length_le (by rw [Hlen.out]; exact Nat.le_refl _)]; rfl, rfl⟩
        case round =>
          obtain ⟨j, y, hj, rfl, rfl, hy, rfl⟩ := hrel
          have Hy := Lib.hid hy; clear hy
          rcases j with _ | i
          · have hyv : ((Num.val t : Nat) : Int) = y := by rw [Hy.out, List.drop_zero]
            rw [hyv] at H2
            have Hyv := Lib.hid hyv; clear hyv
            have hs3 : Num.size (Num.val t) = 1 + k ∨ ¬ Num.size (Num.val t) = 1 + k := Classical.em _
            generalize hsz : Num.size (Num.val t) = s at H2 h9 hs3
            have Hsz := Lib.hid hsz; clear hsz
            generalize Num.num (Num.val t) = N at H2
            clear Hy Hat
            go_wp2_with fail
            refine H2.out.mono ?_
            rintro e w1 ⟨g, c, rfl, ho, hbl⟩
            clear H2
            rcases hs3 with h3 | h3
            · have hT := HT.out
              rw [Hsz.out, if_pos h3] at hT
              subst hT
              have h3' : (s : Int) = 1 + (247 + (k : Int) - 247) := by omega
              clear h3
              go_wp2
              go_ret3
              refine ⟨?_, hbl⟩
              show Ending.returned (.tuple #[.int .u64 y, .int .i64 (1 + (247 + (k : Int) - 247)), .int .i64 0]) = Ending.returned (.tuple #[.int .u64 ((Num.val t : Nat) : Int), .int .i64 ((1 + k : Nat) : Int), .int .i64 0])
              rw [Hyv.out, show (1 + (247 + (k : Int) - 247)) = ((1 + k : Nat) : Int) from by omega]
            · have hT := HT.out
              rw [Hsz.out, if_neg h3] at hT
              subst hT
              have h3' : ¬ ((s : Int) = 1 + (247 + (k : Int) - 247)) := by omega
              clear h3
              go_wp2
              go_ret3
              exact ⟨rfl, hbl⟩
          · have hY := Num.val_drop (l := t) (i := i) (by have := Hlen.out; omega)
            have hlt := Num.val_lt (t.drop (i + 1))
            rw [List.length_drop, Hlen.out] at hlt
            have hle : (256 : Nat) ^ (k - (i + 1)) ≤ 72057594037927936 := Nat.le_trans (Nat.pow_le_pow_right (by omega) (show k - (i + 1) ≤ 7 by omega)) (by decide)
            have hc := Hat.out i (by omega)
            rw [List.getElem?_eq_getElem (by have := Hlen.out; omega), Option.getD_some] at hc
            rw [show ad.add (i + 1) = ⟨ad.block, ad.off + (i + 1), none⟩ from by simp [Addr.add]] at hc
            have hb256 := Num.byte_lt (t[i]'(by have := Hlen.out; omega))
            generalize (t[i]'(by have := Hlen.out; omega)).toNat = b at hc hY hb256
            have hy0 : 0 ≤ y := by rw [Hy.out]; omega
            have hy1 : y ≤ 72057594037927935 := by rw [Hy.out]; omega
            have HY := Lib.hid (show y * 256 + (b : Int) = (Num.val (t.drop i) : Int) by rw [Hy.out]; omega)
            clear hlt hle hY
            go_wp2
            go_roundw
            case rel => exact ⟨i, _, by omega, by go_num, rfl, HY.out, trivial⟩
            case measure => simp [intOf]
end Go.Proofs.Ytgjopffdgdimlaa

/- A piece of a byte slice from a place on. -/
namespace Go.Proofs.Ytgjopffdgdimlaa
open Go.RowKit

/-- a piece from lo on, its length given -/
theorem run_cut_from (A : Option Addr) (n cap lo m : Nat) (h : n = lo + m) (W : World) :
    (Instr.slice 22 (.slice A n cap) (some (.int .i64 (lo : Int))) none none).run Try.prog W = .ok (.slice (cutAt A cap lo) m (cap - lo)) W := by
  rw [run_cut_l A n cap lo (by omega), show n - lo = m from by omega]
end Go.Proofs.Ytgjopffdgdimlaa

/- Slices of bytes made full of zeros. -/
namespace Go.Proofs.Ytgjopffdgdimlaa
open Go.ChangeShapes Go.WideShapes Go.ChangeAt Go.RowKit
set_option maxRecDepth 100000

/-- made full of zeros -/
theorem run_make_zeros (n : Nat) (hn : n ≤ 281474976710656) (w : World) :
    (Instr.makeSlice 22 (.int .i64 (n : Int)) (.int .i64 (n : Int))).run Try.prog w = .ok (.slice (some ⟨w.heap.size, 0, none⟩) n n) (w.alloc (.cells (madeCells #[.int .u8 0] n) 5)) :=
  run_make_row' 22 5 (.int .u8 0) 1 Try.underlying22 byte_info rfl .i64 .i64 n (by omega) (by omega) w
theorem own_zeros (w : World) (n : Nat) (hn : n ≤ maxLen) : Own (w.alloc (.cells (madeCells #[.int .u8 0] n) 5)) w.heap.size (some ⟨w.heap.size, 0, none⟩) n n (List.replicate n 0) := by
  have h := World.ownsRow_lit (e := 5) (size := 1) w (madeCells #[.int .u8 0] n) n (Nat.le_refl _) hn (by rw [size_madeCells]; omega)
  rw [toList_madeCells_one] at h
  unfold Own
  rw [show bvals (List.replicate n 0) = List.replicate n (.int .u8 0) from by simp [bvals, bval]]
  exact h
end Go.Proofs.Ytgjopffdgdimlaa
