/- How many bits of a word are set, by sums of fields side by side: plain arithmetic, no program. -/
import Derived.Test.YtggelnlbdpdegaaDoorRst
namespace Go.Proofs.YtggelnlbdpdegaaDoor.Rst

/-- the bits of a number of at most f bits, counted -/
def pops : Nat → Nat → Nat
  | 0, _ => 0
  | f + 1, x => x % 2 + pops f (x / 2)
/-- k fields of the base b, in each the count of bits of that field of x (of at most g bits) -/
def fields (b g : Nat) : Nat → Nat → Nat
  | 0, _ => 0
  | k + 1, x => b * fields b g k (x / b) + pops g (x % b)
/-- the mask with m in each of k fields of the base b -/
def mask (b m : Nat) : Nat → Nat
  | 0 => 0
  | k + 1 => b * mask b m k + m

theorem and_split (s : Nat) (x y b m : Nat) (hm : m < 2 ^ s) (hb : b = 2 ^ s) : x &&& (b * y + m) = b * (x / b &&& y) + (x % b &&& m) := by
  subst hb
  have hd : (x &&& (2 ^ s * y + m)) / 2 ^ s = x / 2 ^ s &&& (2 ^ s * y + m) / 2 ^ s := Nat.and_div_two_pow
  have hr : (x &&& (2 ^ s * y + m)) % 2 ^ s = (x % 2 ^ s) &&& ((2 ^ s * y + m) % 2 ^ s) := Nat.and_mod_two_pow
  rw [Nat.mul_add_div (Nat.two_pow_pos s), Nat.div_eq_of_lt hm, Nat.add_zero] at hd
  rw [Nat.mul_add_mod, Nat.mod_eq_of_lt hm] at hr
  have h := Nat.div_add_mod (x &&& (2 ^ s * y + m)) (2 ^ s)
  rw [hd, hr] at h
  exact h.symm
theorem and_one (x : Nat) : x &&& 1 = x % 2 := Nat.and_one_is_mod x
theorem and_three (x : Nat) : x &&& 3 = x % 4 := Nat.and_two_pow_sub_one_eq_mod x 2
theorem and_fifteen (x : Nat) : x &&& 15 = x % 16 := Nat.and_two_pow_sub_one_eq_mod x 4
theorem and_127 (x : Nat) : x &&& 127 = x % 128 := Nat.and_two_pow_sub_one_eq_mod x 7

theorem step1 : ∀ (k x : Nat), (x / 2 &&& mask 4 1 k) + (x &&& mask 4 1 k) = fields 4 2 k x
  | 0, x => by simp [mask, fields]
  | k + 1, x => by
    have ih := step1 k (x / 4)
    rw [mask, and_split 2 (x / 2) _ 4 1 (by omega) rfl, and_split 2 x _ 4 1 (by omega) rfl, and_one, and_one, fields]
    have e : x / 2 / 4 = x / 4 / 2 := by omega
    rw [e]
    have hp : pops 2 (x % 4) = x / 2 % 4 % 2 + x % 4 % 2 := by simp only [pops]; omega
    rw [hp]
    omega
theorem fields4_cell (k x : Nat) : fields 4 2 (k + 1) x % 4 = pops 2 (x % 4) ∧ fields 4 2 (k + 1) x / 4 = fields 4 2 k (x / 4) := by
  have : pops 2 (x % 4) < 4 := by simp only [pops]; omega
  simp only [fields]
  omega
theorem step2 : ∀ (k x : Nat), (fields 4 2 (2 * k) x / 4 &&& mask 16 3 k) + (fields 4 2 (2 * k) x &&& mask 16 3 k) = fields 16 4 k x
  | 0, x => by simp [mask, fields]
  | k + 1, x => by
    have ih := step2 k (x / 16)
    rw [show 2 * (k + 1) = 2 * k + 1 + 1 by omega]
    obtain ⟨a1, a2⟩ := fields4_cell (2 * k + 1) x
    obtain ⟨b1, b2⟩ := fields4_cell (2 * k) (x / 4)
    rw [show x / 4 / 4 = x / 16 by omega] at b2
    generalize fields 4 2 (2 * k + 1 + 1) x = y at *
    rw [mask, and_split 4 (y / 4) _ 16 3 (by omega) rfl, and_split 4 y _ 16 3 (by omega) rfl, and_three, and_three, fields]
    rw [← a2] at b1 b2
    rw [show y / 4 / 16 = y / 16 / 4 by omega, show y / 16 = y / 4 / 4 by omega, b2]
    have hp : pops 4 (x % 16) = y / 4 % 16 % 4 + y % 16 % 4 := by
      rw [show y / 4 % 16 % 4 = y / 4 % 4 by omega, show y % 16 % 4 = y % 4 by omega, a1, b1]
      simp only [pops]
      omega
    rw [hp]
    omega
theorem fields16_cell (k x : Nat) : fields 16 4 (k + 1) x % 16 = pops 4 (x % 16) ∧ fields 16 4 (k + 1) x / 16 = fields 16 4 k (x / 16) ∧ pops 4 (x % 16) ≤ 4 := by
  have : pops 4 (x % 16) ≤ 4 := by simp only [pops]; omega
  refine ⟨?_, ?_, this⟩ <;> (simp only [fields]; omega)
theorem fields16_low (k x : Nat) : fields 16 4 k x % 16 ≤ 4 := by
  cases k with
  | zero => simp [fields]
  | succ k => obtain ⟨h1, _, h2⟩ := fields16_cell k x; omega
theorem step3 : ∀ (k x : Nat), (fields 16 4 (2 * k) x / 16 + fields 16 4 (2 * k) x) &&& mask 256 15 k = fields 256 8 k x
  | 0, x => by simp [mask, fields]
  | k + 1, x => by
    have ih := step3 k (x / 256)
    rw [show 2 * (k + 1) = 2 * k + 1 + 1 by omega]
    obtain ⟨a1, a2, a3⟩ := fields16_cell (2 * k + 1) x
    obtain ⟨b1, b2, b3⟩ := fields16_cell (2 * k) (x / 16)
    rw [show x / 16 / 16 = x / 256 by omega] at b2
    have c := fields16_low (2 * k) (x / 256)
    generalize fields 16 4 (2 * k + 1 + 1) x = y at *
    rw [← a2] at b1 b2
    rw [← b2] at ih c
    rw [mask, and_split 8 _ _ 256 15 (by omega) rfl, and_fifteen, fields]
    have e1 : (y / 16 + y) / 256 = y / 16 / 16 / 16 + y / 16 / 16 := by omega
    have e2 : (y / 16 + y) % 256 % 16 = pops 4 (x / 16 % 16) + pops 4 (x % 16) := by omega
    have hp : pops 8 (x % 256) = pops 4 (x / 16 % 16) + pops 4 (x % 16) := by simp only [pops]; omega
    rw [e1, ih, e2, hp]

theorem pops_split : ∀ (f x g : Nat), pops (f + g) x = pops g (x / 2 ^ f) + pops f (x % 2 ^ f)
  | 0, x, g => by simp [pops]
  | f + 1, x, g => by
    rw [show f + 1 + g = (f + g) + 1 by omega, pops, pops_split f (x / 2) g, pops]
    have e1 : x / 2 / 2 ^ f = x / 2 ^ (f + 1) := by rw [Nat.div_div_eq_div_mul, Nat.pow_succ, Nat.mul_comm 2]
    have e2 : x % 2 ^ (f + 1) % 2 = x % 2 := by rw [Nat.pow_succ, Nat.mod_mul_left_mod]
    have e3 : x % 2 ^ (f + 1) / 2 = x / 2 % 2 ^ f := by rw [Nat.pow_succ, Nat.mul_comm, Nat.mod_mul_right_div_self]
    rw [e1, e2, e3]
    omega
theorem pops_le : ∀ (f x : Nat), pops f x ≤ f
  | 0, _ => by simp [pops]
  | f + 1, x => by have := pops_le f (x / 2); simp only [pops]; omega
theorem bytes_step (k y0 y1 y2 y3 d0 d1 d2 : Nat) (h0 : y0 = 256 * y1 + d0) (h1 : y1 = 256 * y2 + d1) (h2 : y2 = 256 * y3 + d2) (b0 : d0 ≤ k) (b1 : d1 ≤ k) (b2 : d2 ≤ k) (hk : k ≤ 60) : (y0 + y1) / 65536 = y2 + y3 := by omega
theorem bytes_step4 (s0 s1 s2 s3 s4 e0 e1 e2 e3 : Nat) (h0 : s0 = 256 * s1 + e0) (h1 : s1 = 256 * s2 + e1) (h2 : s2 = 256 * s3 + e2) (h3 : s3 = 256 * s4 + e3) (b0 : e0 ≤ 60) (b1 : e1 ≤ 60) (b2 : e2 ≤ 60) (b3 : e3 ≤ 60) : s0 / 4294967296 = s4 := by omega
/-- the sum of eight bytes side by side -/
theorem bytes_sum (d0 d1 d2 d3 d4 d5 d6 d7 : Nat) (h0 : d0 ≤ 8) (h1 : d1 ≤ 8) (h2 : d2 ≤ 8) (h3 : d3 ≤ 8) (h4 : d4 ≤ 8) (h5 : d5 ≤ 8) (h6 : d6 ≤ 8) (h7 : d7 ≤ 8)
    (y z t u : Nat) (hy : y = 256 * (256 * (256 * (256 * (256 * (256 * (256 * d7 + d6) + d5) + d4) + d3) + d2) + d1) + d0)
    (hz : z = y + y / 256) (ht : t = z + z / 65536) (hu : u = t + t / 4294967296) : u % 128 = d0 + d1 + d2 + d3 + d4 + d5 + d6 + d7 ∧ u < 9223372036854775808 ∧ z < 18446744073709551616 ∧ t < 18446744073709551616 := by
  obtain ⟨y6, e6⟩ : ∃ v, v = 256 * d7 + d6 := ⟨_, rfl⟩
  rw [← e6] at hy
  obtain ⟨y5, e5⟩ : ∃ v, v = 256 * y6 + d5 := ⟨_, rfl⟩
  rw [← e5] at hy
  obtain ⟨y4, e4⟩ : ∃ v, v = 256 * y5 + d4 := ⟨_, rfl⟩
  rw [← e4] at hy
  obtain ⟨y3, e3⟩ : ∃ v, v = 256 * y4 + d3 := ⟨_, rfl⟩
  rw [← e3] at hy
  obtain ⟨y2, e2⟩ : ∃ v, v = 256 * y3 + d2 := ⟨_, rfl⟩
  rw [← e2] at hy
  obtain ⟨y1, e1⟩ : ∃ v, v = 256 * y2 + d1 := ⟨_, rfl⟩
  rw [← e1] at hy
  have hz1 : z = y + y1 := by omega
  have b6 : y6 ≤ 2056 := by omega
  have b5 : y5 ≤ 526344 := by omega
  have b4 : y4 ≤ 134744072 := by omega
  have b3 : y3 ≤ 34494482440 := by omega
  have b2 : y2 ≤ 8830587504648 := by omega
  have b1 : y1 ≤ 2260630401189896 := by omega
  have b0 : y ≤ 578721382704613384 := by omega
  have ht1 : t = y + y1 + y2 + y3 := by
    have := bytes_step 8 y y1 y2 y3 d0 d1 d2 hy e1 e2 h0 h1 h2 (by omega)
    rw [← hz1] at this
    omega
  have hs : t / 4294967296 = y4 + y5 + y6 + d7 := by
    refine bytes_step4 t (y1 + y2 + y3 + y4) (y2 + y3 + y4 + y5) (y3 + y4 + y5 + y6) (y4 + y5 + y6 + d7) (d0 + d1 + d2 + d3) (d1 + d2 + d3 + d4) (d2 + d3 + d4 + d5) (d3 + d4 + d5 + d6) ?_ ?_ ?_ ?_ ?_ ?_ ?_ ?_
    · rw [ht1, hy, e1, e2, e3]; simp only [Nat.mul_add]; omega
    · rw [e1, e2, e3, e4]; simp only [Nat.mul_add]; omega
    · rw [e2, e3, e4, e5]; simp only [Nat.mul_add]; omega
    · rw [e3, e4, e5, e6]; simp only [Nat.mul_add]; omega
    all_goals omega
  have hu1 : u = 256 * (y1 + y2 + y3 + y4 + y5 + y6 + d7) + (d0 + d1 + d2 + d3 + d4 + d5 + d6 + d7) := by
    rw [hu, hs, ht1]
    clear hu hs ht1 ht hz hz1
    simp only [Nat.mul_add]
    omega
  refine ⟨?_, ?_, ?_, ?_⟩
  · clear hu hs ht1 ht hz hz1 hy e1 e2 e3 e4 e5 e6
    generalize y1 + y2 + y3 + y4 + y5 + y6 + d7 = Y at hu1
    omega
  · clear hu hs ht1 ht hz hz1 hy e1 e2 e3 e4 e5 e6
    omega
  · clear hu hs ht1 ht hz hy e1 e2 e3 e4 e5 e6
    omega
  · clear hu hs ht hz hy e1 e2 e3 e4 e5 e6
    omega
theorem pops64 (x : Nat) : pops 64 x = pops 8 (x % 256) + pops 8 (x / 256 % 256) + pops 8 (x / 256 / 256 % 256) + pops 8 (x / 256 / 256 / 256 % 256) + pops 8 (x / 256 / 256 / 256 / 256 % 256) + pops 8 (x / 256 / 256 / 256 / 256 / 256 % 256) + pops 8 (x / 256 / 256 / 256 / 256 / 256 / 256 % 256) + pops 8 (x / 256 / 256 / 256 / 256 / 256 / 256 / 256 % 256) := by
  have h : ∀ (g y : Nat), pops (8 + g) y = pops g (y / 256) + pops 8 (y % 256) := fun g y => pops_split 8 y g
  rw [show 64 = 8 + 56 by rfl, h, show 56 = 8 + 48 by rfl, h, show 48 = 8 + 40 by rfl, h, show 40 = 8 + 32 by rfl, h, show 32 = 8 + 24 by rfl, h, show 24 = 8 + 16 by rfl, h, show 16 = 8 + 8 by rfl, h]
  have e : ∀ y : Nat, pops 8 y = pops 8 (y % 256) := by intro y; simp only [pops]; omega
  rw [e (x / 256 / 256 / 256 / 256 / 256 / 256 / 256)]
  omega
theorem masks : mask 4 1 32 = 6148914691236517205 ∧ mask 16 3 16 = 3689348814741910323 ∧ mask 256 15 8 = 1085102592571150095 := by decide
/-- the whole computation -/
theorem swar (x a b c z t u : Nat) (ha : a = (x / 2 &&& 6148914691236517205) + (x &&& 6148914691236517205)) (hb : b = (a / 4 &&& 3689348814741910323) + (a &&& 3689348814741910323))
    (hc : c = (b / 16 + b) &&& 1085102592571150095) (hz : z = c + c / 256) (ht : t = z + z / 65536) (hu : u = t + t / 4294967296) :
    u % 128 = pops 64 x ∧ u < 9223372036854775808 ∧ z < 18446744073709551616 ∧ t < 18446744073709551616 := by
  obtain ⟨m1, m2, m3⟩ := masks
  rw [← m1, step1] at ha
  rw [ha, ← m2, step2 16] at hb
  rw [hb, ← m3, step3 8] at hc
  simp only [fields, Nat.mul_zero, Nat.zero_add] at hc
  rw [pops64]
  exact bytes_sum _ _ _ _ _ _ _ _ (pops_le 8 _) (pops_le 8 _) (pops_le 8 _) (pops_le 8 _) (pops_le 8 _) (pops_le 8 _) (pops_le 8 _) (pops_le 8 _) c z t u (by rw [hc]) hz ht hu
theorem swar_lt (x a b : Nat) (ha : a = (x / 2 &&& 6148914691236517205) + (x &&& 6148914691236517205)) (hb : b = (a / 4 &&& 3689348814741910323) + (a &&& 3689348814741910323)) :
    a < 18446744073709551616 ∧ b < 18446744073709551616 ∧ b / 16 + b < 18446744073709551616 := by
  have h1 : x / 2 &&& 6148914691236517205 ≤ 6148914691236517205 := Nat.and_le_right
  have h2 : x &&& 6148914691236517205 ≤ 6148914691236517205 := Nat.and_le_right
  have h3 : a / 4 &&& 3689348814741910323 ≤ 3689348814741910323 := Nat.and_le_right
  have h4 : a &&& 3689348814741910323 ≤ 3689348814741910323 := Nat.and_le_right
  omega

/-- the bits that are set, counted by places -/
theorem pops_count : ∀ (f x : Nat), pops f x = (List.range f).countP (fun j => x.testBit j)
  | 0, _ => rfl
  | f + 1, x => by
    rw [List.range_succ_eq_map, List.countP_cons, List.countP_map, pops, pops_count f (x / 2)]
    have e : ((fun j => x.testBit j) ∘ Nat.succ) = fun j => (x / 2).testBit j := by
      funext j
      exact Nat.testBit_succ ..
    rw [e, Nat.testBit_zero]
    rcases Nat.mod_two_eq_zero_or_one x with h | h <;> simp [h] <;> omega
/-- how many rows are in a set of so many words -/
def count (ws : List UInt64) (k : Nat) : Nat := (List.range (64 * k)).countP (bit ws)
theorem count_succ {ws : List UInt64} {k : Nat} (h : k < ws.length) : count ws (k + 1) = count ws k + pops 64 ws[k].toNat := by
  unfold count
  rw [show 64 * (k + 1) = 64 * k + 64 by omega, List.range_add, List.countP_append, List.countP_map, pops_count]
  congr 1
  apply List.countP_congr
  intro j hj
  rw [List.mem_range] at hj
  have e1 : (64 * k + j) / 64 = k := by omega
  have e2 : (64 * k + j) % 64 = j := by omega
  simp only [Function.comp]
  rw [bit_get (by omega)]
  simp only [e1, e2]
theorem count_le (ws : List UInt64) (k : Nat) : count ws k ≤ 64 * k := by
  unfold count
  exact Nat.le_trans List.countP_le_length (by simp)
theorem countP_and_or {α : Type} (p q : α → Bool) : ∀ l : List α, l.countP (fun x => p x && q x) + l.countP (fun x => p x || q x) = l.countP p + l.countP q
  | [] => rfl
  | x :: l => by
    have ih := countP_and_or p q l
    simp only [List.countP_cons]
    cases p x <;> cases q x <;> simp <;> omega
end Go.Proofs.YtggelnlbdpdegaaDoor.Rst
