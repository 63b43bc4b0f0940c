/- Fields, plainly: keys, numbers' texts, the field of a word, the words of a line, the fields of a line. -/
import Derived.Lib.AtoiAll
import Derived.Lib.ItoaNum
namespace Go.Proofs.YtbjoboemhdcalaaDoor.Fld
open Go

/-- a blank -/
def blank (c : UInt8) : Bool := c.toNat == 9 || c.toNat == 10 || c.toNat == 13 || c.toNat == 32
/-- a byte of a key -/
def keyByte (c : UInt8) : Bool := decide (97 ≤ c.toNat) && decide (c.toNat ≤ 122) || decide (65 ≤ c.toNat) && decide (c.toNat ≤ 90) || decide (48 ≤ c.toNat) && decide (c.toNat ≤ 57) || c.toNat == 95 || c.toNat == 46 || c.toNat == 45
/-- a key -/
def isKey (l : List UInt8) : Bool := decide (1 ≤ l.length) && decide (l.length ≤ 32) && l.all keyByte
/-- a digit -/
def digit (c : UInt8) : Bool := decide (48 ≤ c.toNat) && decide (c.toNat ≤ 57)
/-- what digits spell, behind what was spelt before -/
def val (v : Nat) (l : List UInt8) : Nat := l.foldl (fun v c => v * 10 + (c.toNat - 48)) v
theorem val_nil (v : Nat) : val v [] = v := rfl
theorem val_cons (v : Nat) (c : UInt8) (r : List UInt8) : val v (c :: r) = val (v * 10 + (c.toNat - 48)) r := by unfold val; rw [List.foldl_cons]
/-- the number of a text -/
def num (l : List UInt8) : Option Int := match Lib.atoiAll l with
  | .ok v => if Lib.itoa v = l then some v else none
  | _ => none

theorem val_snoc (c : UInt8) (v : Nat) (l : List UInt8) : val v (l ++ [c]) = val v l * 10 + (c.toNat - 48) := by
  unfold val
  rw [List.foldl_append]
  rfl
theorem val_ge : ∀ (v : Nat) (l : List UInt8), v * 10 ^ l.length ≤ val v l
  | v, [] => by rw [val_nil]; simp
  | v, c :: r => by
    have h := val_ge (v * 10 + (c.toNat - 48)) r
    rw [val_cons, List.length_cons, Nat.pow_succ]
    have : v * (10 ^ r.length * 10) ≤ (v * 10 + (c.toNat - 48)) * 10 ^ r.length := by
      rw [Nat.mul_comm (10 ^ r.length) 10, ← Nat.mul_assoc]
      exact Nat.mul_le_mul_right _ (by omega)
    omega
theorem val_lt : ∀ (v : Nat) (l : List UInt8), l.all digit = true → val v l < (v + 1) * 10 ^ l.length
  | v, [], _ => by rw [val_nil]; simp
  | v, c :: r, h => by
    simp only [List.all_cons, Bool.and_eq_true, digit, decide_eq_true_eq] at h
    have h1 := val_lt (v * 10 + (c.toNat - 48)) r h.2
    rw [val_cons, List.length_cons, Nat.pow_succ]
    have : (v * 10 + (c.toNat - 48) + 1) * 10 ^ r.length ≤ (v + 1) * (10 ^ r.length * 10) := by
      rw [Nat.mul_comm (10 ^ r.length) 10, ← Nat.mul_assoc]
      exact Nat.mul_le_mul_right _ (by omega)
    omega
theorem parse_ok : ∀ (acc : Nat) (l : List UInt8), l.all digit = true → val acc l < 18446744073709551616 → Lib.parseUint10 acc l = .ok (val acc l)
  | acc, [], _, _ => rfl
  | acc, c :: r, h, hv => by
    simp only [List.all_cons, Bool.and_eq_true, digit, decide_eq_true_eq] at h
    rw [val_cons] at hv
    have hge := val_ge (acc * 10 + (c.toNat - 48)) r
    have hp : 1 ≤ 10 ^ r.length := Nat.one_le_pow _ _ (by decide)
    have hm : acc * 10 + (c.toNat - 48) ≤ (acc * 10 + (c.toNat - 48)) * 10 ^ r.length := Nat.le_mul_of_pos_right _ (by omega)
    rw [Lib.parseUint10, if_pos h.1, if_neg (by omega), if_neg (by omega), val_cons]
    exact parse_ok _ r h.2 hv
theorem parse_of : ∀ (acc : Nat) (l : List UInt8) (u : Nat), Lib.parseUint10 acc l = .ok u → l.all digit = true ∧ u = val acc l
  | acc, [], u, h => by simp only [Lib.parseUint10] at h; injection h with h; exact ⟨rfl, h.symm⟩
  | acc, c :: r, u, h => by
    simp only [Lib.parseUint10] at h
    split at h
    · rename_i hd
      split at h
      · cases h
      · split at h
        · cases h
        · have := parse_of _ r u h
          refine ⟨?_, this.2⟩
          simp only [List.all_cons, this.1, Bool.and_true, digit, Bool.and_eq_true, decide_eq_true_eq]
          exact hd
    · cases h

/-- digits without a 0 ahead of others -/
def canon (l : List UInt8) : Prop := l ≠ [] ∧ l.all digit = true ∧ (l.head? = some 48 → l.length = 1)
theorem toNat_digit {u : Nat} (h : u < 10) : (UInt8.ofNat (48 + u)).toNat = 48 + u := by
  rw [UInt8.toNat_ofNat']; omega
theorem digit_of {u : Nat} (h : u < 10) : digit (UInt8.ofNat (48 + u)) = true := by
  simp only [digit, toNat_digit h, Bool.and_eq_true, decide_eq_true_eq]; omega
theorem dec_small {u : Nat} (h : u < 10) : Lib.decDigits u = [UInt8.ofNat (48 + u)] := by rw [Lib.decDigits, dif_pos h]
theorem dec_big {u : Nat} (h : ¬ u < 10) : Lib.decDigits u = Lib.decDigits (u / 10) ++ [UInt8.ofNat (48 + u % 10)] := by rw [Lib.decDigits, dif_neg h]
theorem dec_ne (u : Nat) : Lib.decDigits u ≠ [] := by
  by_cases h : u < 10
  · rw [dec_small h]; simp
  · rw [dec_big h]; simp
theorem dec_digits (u : Nat) : (Lib.decDigits u).all digit = true := by
  induction u using Nat.strongRecOn with
  | _ u ih =>
    by_cases h : u < 10
    · rw [dec_small h]; simp only [List.all_cons, List.all_nil, digit_of h, Bool.and_self]
    · rw [dec_big h, List.all_append, ih (u / 10) (by omega)]; simp only [List.all_cons, List.all_nil, digit_of (show u % 10 < 10 by omega), Bool.and_self]
theorem dec_val (u : Nat) : val 0 (Lib.decDigits u) = u := by
  induction u using Nat.strongRecOn with
  | _ u ih =>
    by_cases h : u < 10
    · rw [dec_small h, val_cons, val_nil, toNat_digit h]; omega
    · rw [dec_big h, val_snoc, ih (u / 10) (by omega), toNat_digit (show u % 10 < 10 by omega)]; omega
theorem head_append {l r : List UInt8} (h : l ≠ []) : (l ++ r).head? = l.head? := by cases l <;> simp_all
theorem dec_head {u : Nat} (hu : u ≠ 0) : (Lib.decDigits u).head? ≠ some 48 := by
  induction u using Nat.strongRecOn with
  | _ u ih =>
    by_cases h : u < 10
    · rw [dec_small h]
      simp only [List.head?_cons, ne_eq, Option.some.injEq]
      intro e
      have := congrArg UInt8.toNat e
      rw [toNat_digit h] at this
      simp at this
      omega
    · rw [dec_big h, head_append (dec_ne _)]
      exact ih (u / 10) (by omega) (by omega)
theorem dec_canon (u : Nat) : canon (Lib.decDigits u) := by
  refine ⟨dec_ne u, dec_digits u, fun h => ?_⟩
  by_cases h0 : u = 0
  · subst h0; rw [dec_small (by omega)]; rfl
  · exact absurd h (dec_head h0)
theorem ofNat_toNat {c : UInt8} {n : Nat} (h : c.toNat = n) : UInt8.ofNat n = c := by subst h; simp
/-- digits without a 0 ahead of others are the digits of what they spell -/
theorem dec_of_canon (l : List UInt8) (h : canon l) : Lib.decDigits (val 0 l) = l := by
  suffices H : ∀ (n : Nat) (l : List UInt8), l.length = n → canon l → Lib.decDigits (val 0 l) = l from H _ l rfl h
  intro n
  induction n with
  | zero => intro l hl h; exact absurd (List.eq_nil_of_length_eq_zero hl) h.1
  | succ n ih =>
    intro l hl h
    obtain ⟨hne, hd, hh⟩ := h
    obtain ⟨p, c, rfl⟩ : ∃ p c, l = p ++ [c] := ⟨l.dropLast, l.getLast hne, (List.dropLast_concat_getLast hne).symm⟩
    simp only [List.all_append, List.all_cons, List.all_nil, Bool.and_true, Bool.and_eq_true] at hd
    have hc := hd.2
    simp only [digit, Bool.and_eq_true, decide_eq_true_eq] at hc
    rw [val_snoc]
    by_cases hp : p = []
    · subst hp
      rw [val_nil, List.nil_append, dec_small (by omega), ofNat_toNat (c := c) (by omega)]
    · have hph : p.head? ≠ some 48 := fun e => by
        have := hh (by rw [head_append hp]; exact e)
        cases p with
        | nil => exact hp rfl
        | cons x y => simp at this
      have hcp : canon p := ⟨hp, hd.1, fun e => absurd e hph⟩
      have hpos : 1 ≤ val 0 p := by
        cases p with
        | nil => exact absurd rfl hp
        | cons x y =>
          have hx : x.toNat ≠ 48 := fun e => hph (by simp only [List.head?_cons, Option.some.injEq]; exact UInt8.toNat_inj.1 e)
          have hx2 := hd.1
          simp only [List.all_cons, digit, Bool.and_eq_true, decide_eq_true_eq] at hx2
          have := val_ge (0 * 10 + (x.toNat - 48)) y
          have hp1 : 1 ≤ 10 ^ y.length := Nat.one_le_pow _ _ (by decide)
          have hm : 0 * 10 + (x.toNat - 48) ≤ (0 * 10 + (x.toNat - 48)) * 10 ^ y.length := Nat.le_mul_of_pos_right _ (by omega)
          rw [val_cons]
          omega
      rw [dec_big (by omega), show (val 0 p * 10 + (c.toNat - 48)) / 10 = val 0 p from by omega, show (val 0 p * 10 + (c.toNat - 48)) % 10 = c.toNat - 48 from by omega,
        ih p (by simp at hl; omega) hcp, ofNat_toNat (c := c) (by omega)]

theorem dec_length {u k : Nat} (h : u < 10 ^ k) (hk : 1 ≤ k) : (Lib.decDigits u).length ≤ k := by
  induction k generalizing u with
  | zero => omega
  | succ k ih =>
    by_cases h10 : u < 10
    · rw [dec_small h10]; simp
    · have hk0 : 1 ≤ k := by
        rcases Nat.eq_zero_or_pos k with h0 | h0
        · subst h0; simp at h; omega
        · exact h0
      rw [dec_big h10, List.length_append]
      have := ih (u := u / 10) (by rw [Nat.pow_succ] at h; omega) hk0
      simp; omega

theorem dec_first (u : Nat) : ∃ c r, Lib.decDigits u = c :: r ∧ 48 ≤ c.toNat ∧ c.toNat ≤ 57 := by
  have h := dec_digits u
  cases hd : Lib.decDigits u with
  | nil => exact absurd hd (dec_ne u)
  | cons c r =>
    rw [hd] at h
    simp only [List.all_cons, Bool.and_eq_true, digit, decide_eq_true_eq] at h
    exact ⟨c, r, rfl, h.1⟩
theorem mag_dec {u : Nat} (h : u < 18446744073709551616) : Lib.parseMag (Lib.decDigits u) = .ok u := by
  rw [Lib.parseMag, if_neg (dec_ne u), parse_ok 0 _ (dec_digits u) (by rw [dec_val]; exact h), dec_val]
/-- what is shown is read -/
theorem atoi_itoa {v : Int} (h0 : -9223372036854775808 ≤ v) (h1 : v ≤ 9223372036854775807) : Lib.atoiAll (Lib.itoa v) = .ok v := by
  unfold Lib.itoa
  by_cases hv : v < 0
  · rw [if_pos hv]
    have hm := mag_dec (u := v.natAbs) (by omega)
    simp only [Lib.atoiAll, show ((45 : UInt8).toNat = 45) from rfl]
    rw [if_pos (Or.inr trivial), hm]
    simp only [not_true, false_and, if_false, true_and]
    rw [if_neg (by omega)]
    simp only [if_true]
    congr 1
    omega
  · rw [if_neg hv]
    have hm := mag_dec (u := v.toNat) (by omega)
    obtain ⟨c, r, hd, hc0, hc1⟩ := dec_first v.toNat
    rw [hd] at hm ⊢
    simp only [Lib.atoiAll]
    rw [if_neg (by omega), hm]
    have h45 : ¬ c.toNat = 45 := by omega
    simp only [h45, not_false_eq_true, true_and, false_and, if_false]
    rw [if_neg (by omega)]
    congr 1
    omega
theorem atoi_bounds {l : List UInt8} {v : Int} (h : Lib.atoiAll l = .ok v) : -9223372036854775808 ≤ v ∧ v ≤ 9223372036854775807 := by
  cases l with
  | nil => cases h
  | cons c r =>
    simp only [Lib.atoiAll] at h
    split at h
    · cases h
    · cases h
    · split at h
      · cases h
      · split at h
        · cases h
        · injection h with h
          split at h <;> omega
theorem num_iff {l : List UInt8} {v : Int} : num l = some v ↔ Lib.itoa v = l ∧ -9223372036854775808 ≤ v ∧ v ≤ 9223372036854775807 := by
  constructor
  · intro h
    unfold num at h
    split at h
    · rename_i u hu
      split at h
      · injection h with h
        subst h
        rename_i hi
        exact ⟨hi, atoi_bounds hu⟩
      · cases h
    · cases h
  · rintro ⟨rfl, h0, h1⟩
    unfold num
    rw [atoi_itoa h0 h1]
    simp
theorem itoa_length {v : Int} (h0 : -9223372036854775808 ≤ v) (h1 : v ≤ 9223372036854775807) : (Lib.itoa v).length ≤ 20 := by
  unfold Lib.itoa
  split
  · have := dec_length (u := v.natAbs) (k := 19) (by have : (10:Nat) ^ 19 = 10000000000000000000 := by decide
                                                     omega) (by omega)
    simp; omega
  · have := dec_length (u := v.toNat) (k := 19) (by have : (10:Nat) ^ 19 = 10000000000000000000 := by decide
                                                    omega) (by omega)
    omega
theorem num_itoa {v : Int} (h0 : -9223372036854775808 ≤ v) (h1 : v ≤ 9223372036854775807) : num (Lib.itoa v) = some v := num_iff.2 ⟨rfl, h0, h1⟩

/-- the document's number: behind a sign s -/
def refNum (least : Bool) (s : List UInt8) : Option Int :=
  if s.length < 1 ∨ 19 < s.length ∨ (s.head? = some 48 ∧ (1 < s.length ∨ least = true)) then none
  else if s.all digit = false then none
  else if least = true then (if 9223372036854775808 < val 0 s then none else some (-(val 0 s : Int)))
  else if 9223372036854775807 < val 0 s then none else some (val 0 s : Int)
theorem neg_head {s : List UInt8} : Lib.itoa (-(val 0 s : Int)) = if val 0 s = 0 then Lib.decDigits 0 else 45 :: Lib.decDigits (val 0 s) := by
  unfold Lib.itoa
  by_cases h : val 0 s = 0
  · rw [if_pos h, h]; simp
  · rw [if_neg h, if_pos (by omega), show (-(val 0 s : Int)).natAbs = val 0 s from by omega]
theorem refNum_neg (s : List UInt8) : refNum true s = num (45 :: s) := by
  apply Option.ext
  intro v
  rw [num_iff]
  constructor
  · intro h
    unfold refNum at h
    split at h
    · cases h
    · rename_i hf
      split at h
      · cases h
      · rename_i hd
        rw [if_pos rfl] at h
        split at h
        · cases h
        · rename_i hv
          injection h with h
          subst h
          have hh : s.head? ≠ some 48 := fun e => hf (.inr (.inr ⟨e, .inr rfl⟩))
          have hcan : canon s := ⟨fun e => hf (.inl (by subst e; simp)), by simpa using hd, fun e => absurd e hh⟩
          have hpos : val 0 s ≠ 0 := fun e => by
            have := dec_of_canon s hcan
            rw [e, dec_small (by omega)] at this
            exact hh (by rw [← this]; rfl)
          refine ⟨?_, by omega, by omega⟩
          rw [neg_head, if_neg hpos, dec_of_canon s hcan]
  · rintro ⟨h, h0, h1⟩
    unfold Lib.itoa at h
    split at h
    · rename_i hv
      injection h with _ h
      subst h
      have hn : v.natAbs ≠ 0 := by omega
      have hlen := dec_length (u := v.natAbs) (k := 19) (by have : (10:Nat) ^ 19 = 10000000000000000000 := by decide
                                                            omega) (by omega)
      have hne : (Lib.decDigits v.natAbs).length ≠ 0 := fun e => dec_ne _ (List.eq_nil_of_length_eq_zero e)
      unfold refNum
      rw [if_neg (by rintro (h | h | h); · omega
                     · omega
                     · exact dec_head hn h.1), if_neg (by rw [dec_digits]; simp), if_pos rfl, dec_val, if_neg (by omega)]
      congr 1
      omega
    · obtain ⟨c, r, hd, hc, _⟩ := dec_first v.toNat
      rw [hd] at h
      injection h with h _
      subst h
      simp at hc
theorem refNum_pos (s : List UInt8) (hs : s.head? ≠ some 45) : refNum false s = num s := by
  apply Option.ext
  intro v
  rw [num_iff]
  constructor
  · intro h
    unfold refNum at h
    split at h
    · cases h
    · rename_i hf
      split at h
      · cases h
      · rename_i hd
        rw [if_neg (by simp)] at h
        split at h
        · cases h
        · rename_i hv
          injection h with h
          subst h
          have hcan : canon s := ⟨fun e => hf (.inl (by subst e; simp)), by simpa using hd, fun e => by
            have h1 : ¬ 1 < s.length := fun h1 => hf (.inr (.inr ⟨e, .inl h1⟩))
            have h2 : ¬ s.length < 1 := fun h2 => hf (.inl h2)
            omega⟩
          refine ⟨?_, by omega, by omega⟩
          unfold Lib.itoa
          rw [if_neg (by omega), show ((val 0 s : Nat) : Int).toNat = val 0 s from by omega, dec_of_canon s hcan]
  · rintro ⟨h, h0, h1⟩
    unfold Lib.itoa at h
    split at h
    · subst h; simp at hs
    · subst h
      have hlen := dec_length (u := v.toNat) (k := 19) (by have : (10:Nat) ^ 19 = 10000000000000000000 := by decide
                                                           omega) (by omega)
      have hne : (Lib.decDigits v.toNat).length ≠ 0 := fun e => dec_ne _ (List.eq_nil_of_length_eq_zero e)
      unfold refNum
      rw [if_neg (by rintro (h | h | h); · omega
                     · omega
                     · rcases h with ⟨h, h' | h'⟩
                       · have := (dec_canon v.toNat).2.2 h; omega
                       · cases h'), if_neg (by rw [dec_digits]; simp), if_neg (by simp), dec_val, if_neg (by omega)]
      congr 1
      omega
end Go.Proofs.YtbjoboemhdcalaaDoor.Fld
