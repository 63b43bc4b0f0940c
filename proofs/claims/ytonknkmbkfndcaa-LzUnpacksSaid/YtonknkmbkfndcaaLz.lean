/- Packed bytes, plain: parts, how they are laid and read; no program. -/
import Derived.Test.YtonknkmbkfndcaaPlain
namespace Go.Proofs.Ytonknkmbkfndcaa.Lz

/-- the bytes of an extension that adds up to k -/
def ext (k : Nat) : List UInt8 := if k < 255 then [UInt8.ofNat k] else 255 :: ext (k - 255)
termination_by k
decreasing_by omega
/-- the extension of a count, where it has one -/
def exts (n : Nat) : List UInt8 := if n < 15 then [] else ext (n - 15)
/-- the first byte of a part -/
def head (n m : Nat) : UInt8 := UInt8.ofNat (16 * min n 15 + m)
/-- a part up to the end of its literals -/
def lits (l : List UInt8) (m : Nat) : List UInt8 := [head l.length m] ++ exts l.length ++ l
/-- a part -/
def part (l : List UInt8) (d n : Nat) : List UInt8 := lits l (min (n - 4) 15) ++ [UInt8.ofNat d, UInt8.ofNat (d / 256)] ++ exts (n - 4)

theorem ext_small {k : Nat} (h : k < 255) : ext k = [UInt8.ofNat k] := by rw [ext, if_pos h]
theorem ext_great {k : Nat} (h : ¬ k < 255) : ext k = 255 :: ext (k - 255) := by rw [ext, if_neg h]
theorem ext_length (k : Nat) : (ext k).length = k / 255 + 1 := by
  induction k using Nat.strongRecOn with
  | _ k ih =>
    by_cases h : k < 255
    · rw [ext_small h, List.length_singleton]; omega
    · rw [ext_great h, List.length_cons, ih _ (by omega)]; omega
theorem exts_small {n : Nat} (h : n < 15) : exts n = [] := by unfold exts; rw [if_pos h]
theorem exts_great {n : Nat} (h : ¬ n < 15) : exts n = ext (n - 15) := by unfold exts; rw [if_neg h]
theorem exts_length_le (n : Nat) : (exts n).length ≤ n / 255 + 1 := by
  by_cases h : n < 15
  · rw [exts_small h]; simp
  · rw [exts_great h, ext_length]; omega
theorem lits_length (l : List UInt8) (m : Nat) : (lits l m).length = 1 + (exts l.length).length + l.length := by simp [lits]; omega
theorem part_length (l : List UInt8) (d n : Nat) : (part l d n).length = 3 + (exts l.length).length + l.length + (exts (n - 4)).length := by simp [part, lits_length]; omega

/-- read an extension -/
def takeExt : Nat → List UInt8 → Option (Nat × List UInt8)
  | _, [] => none
  | n, x :: r => if x.toNat = 255 then takeExt (n + 255) r else some (n + x.toNat, r)
/-- read a count of which half a byte is known -/
def takeCount (h : Nat) (b : List UInt8) : Option (Nat × List UInt8) := if h < 15 then some (h, b) else takeExt 15 b

theorem takeExt_ext (k : Nat) : ∀ (n : Nat) (r : List UInt8), takeExt n (ext k ++ r) = some (n + k, r) := by
  induction k using Nat.strongRecOn with
  | _ k ih =>
    intro n r
    by_cases h : k < 255
    · rw [ext_small h, List.singleton_append, takeExt, UInt8.toNat_ofNat', if_neg (by omega)]
      rw [show k % 2 ^ 8 = k by omega]
    · rw [ext_great h, List.cons_append, takeExt, if_pos (show (255 : UInt8).toNat = 255 from rfl), ih _ (by omega), show n + 255 + (k - 255) = n + k by omega]
theorem takeCount_exts (n : Nat) (r : List UInt8) : takeCount (min n 15) (exts n ++ r) = some (n, r) := by
  unfold takeCount
  by_cases h : n < 15
  · rw [if_pos (by omega), exts_small h, Nat.min_eq_left (by omega)]; rfl
  · rw [if_neg (by omega), exts_great h, takeExt_ext, show 15 + (n - 15) = n by omega]
theorem takeExt_length : ∀ (b : List UInt8) (n c : Nat) (r : List UInt8), takeExt n b = some (c, r) → r.length < b.length ∧ r = b.drop (b.length - r.length) ∧ c ≤ n + 255 * (b.length - r.length)
  | [], _, _, _, h => by cases h
  | x :: t, n, c, r, h => by
    rw [takeExt] at h
    split at h
    · have ih := takeExt_length t _ _ _ h
      refine ⟨by simp; omega, ?_, ?_⟩
      · rw [List.length_cons, show t.length + 1 - r.length = (t.length - r.length) + 1 by omega, List.drop_succ_cons]; exact ih.2.1
      · simp only [List.length_cons]; omega
    · injection h with h
      injection h with h1 h2
      subst h1 h2
      have := x.toNat_lt
      refine ⟨by simp, by simp, by simp only [List.length_cons]; omega⟩
theorem takeCount_length {b r : List UInt8} {h c : Nat} (hh : h ≤ 15) (e : takeCount h b = some (c, r)) : r.length ≤ b.length ∧ r = b.drop (b.length - r.length) ∧ c ≤ 15 + 255 * b.length := by
  unfold takeCount at e
  split at e
  · injection e with e
    injection e with h1 h2
    subst h1 h2
    exact ⟨Nat.le_refl _, by simp, by omega⟩
  · have := takeExt_length _ _ _ _ e
    exact ⟨by omega, this.2.1, by omega⟩

/-- n bytes more, each equal to the one that precedes it by d -/
def back (out : List UInt8) (d : Nat) : Nat → List UInt8
  | 0 => out
  | n + 1 => back (out ++ [out.getD (out.length - d) 0]) d n
theorem back_length (d : Nat) : ∀ (n : Nat) (out : List UInt8), (back out d n).length = out.length + n
  | 0, out => rfl
  | n + 1, out => by rw [back, back_length d n]; simp; omega
theorem back_snoc (d : Nat) : ∀ (n : Nat) (out : List UInt8), back out d (n + 1) = back out d n ++ [(back out d n).getD ((back out d n).length - d) 0]
  | 0, out => rfl
  | n + 1, out => by rw [back, back_snoc d n]; rfl
theorem back_getD_old (d : Nat) (n : Nat) (out : List UInt8) (i : Nat) (h : i < out.length) : (back out d n).getD i 0 = out.getD i 0 := by
  induction n with
  | zero => rfl
  | succ n ih =>
    rw [back_snoc, ← ih]
    have := back_length d n out
    rw [List.getD_eq_getElem?_getD, List.getElem?_append_left (by omega), ← List.getD_eq_getElem?_getD]
theorem back_getD_new (d : Nat) (n : Nat) (out : List UInt8) (hd : 1 ≤ d) (i : Nat) (h : out.length ≤ i) (h2 : i < out.length + n) : (back out d n).getD i 0 = (back out d n).getD (i - d) 0 := by
  induction n with
  | zero => omega
  | succ n ih =>
    have hl := back_length d n out
    rw [back_snoc]
    by_cases e : i < out.length + n
    · have e1 : ((back out d n) ++ [(back out d n).getD ((back out d n).length - d) 0]).getD i 0 = (back out d n).getD i 0 := by
        rw [List.getD_eq_getElem?_getD, List.getElem?_append_left (by omega), ← List.getD_eq_getElem?_getD]
      have e2 : ((back out d n) ++ [(back out d n).getD ((back out d n).length - d) 0]).getD (i - d) 0 = (back out d n).getD (i - d) 0 := by
        rw [List.getD_eq_getElem?_getD, List.getElem?_append_left (by omega), ← List.getD_eq_getElem?_getD]
      rw [e1, e2]
      exact ih e
    · obtain rfl : i = (back out d n).length := by omega
      have e2 : ((back out d n) ++ [(back out d n).getD ((back out d n).length - d) 0]).getD ((back out d n).length - d) 0 = (back out d n).getD ((back out d n).length - d) 0 := by
        rcases Nat.lt_or_ge ((back out d n).length - d) (back out d n).length with hlt | hge
        · rw [List.getD_eq_getElem?_getD, List.getElem?_append_left hlt, ← List.getD_eq_getElem?_getD]
        · have h0 : (back out d n).length = 0 := by omega
          rw [List.eq_nil_of_length_eq_zero h0]; simp
      rw [e2, List.getD_eq_getElem?_getD, List.getElem?_append_right (Nat.le_refl _)]
      simp
theorem back_add (d : Nat) : ∀ (n m : Nat) (out : List UInt8), back out d (n + m) = back (back out d n) d m
  | 0, m, out => by rw [Nat.zero_add]; rfl
  | n + 1, m, out => by rw [show n + 1 + m = (n + m) + 1 by omega, back, back_add d n m]; rfl
/-- the period -/
theorem back_period (d : Nat) (n : Nat) (out : List UInt8) (hd : 1 ≤ d) : ∀ q i, out.length + d * q ≤ i → i < out.length + n → (back out d n).getD i 0 = (back out d n).getD (i - d * (q + 1)) 0
  | 0, i, h, h2 => by rw [back_getD_new d n out hd i (by omega) h2, Nat.zero_add, Nat.mul_one]
  | q + 1, i, h, h2 => by
    have hq : d * (q + 1) = d * q + d := Nat.mul_succ d q
    have hq2 : d * (q + 1 + 1) = d * q + d + d := by rw [Nat.mul_succ, hq]
    rw [back_getD_new d n out hd i (by omega) h2, back_period d n out hd q (i - d) (by omega) (by omega)]
    congr 1
    omega
theorem ext_getD {a b : List UInt8} (hl : a.length = b.length) (h : ∀ i, i < a.length → a.getD i 0 = b.getD i 0) : a = b := by
  apply List.ext_getElem hl
  intro i h1 h2
  have := h i h1
  simpa [List.getD_eq_getElem?_getD, List.getElem?_eq_getElem h1, List.getElem?_eq_getElem h2] using this
theorem getD_append (a b : List UInt8) (i : Nat) : (a ++ b).getD i 0 = if i < a.length then a.getD i 0 else b.getD (i - a.length) 0 := by
  split
  · rename_i h; rw [List.getD_eq_getElem?_getD, List.getElem?_append_left h, ← List.getD_eq_getElem?_getD]
  · rename_i h; rw [List.getD_eq_getElem?_getD, List.getElem?_append_right (by omega), ← List.getD_eq_getElem?_getD]
theorem getD_take (a : List UInt8) (k i : Nat) (h : i < k) : (a.take k).getD i 0 = a.getD i 0 := by simp [List.getD_eq_getElem?_getD, h]
theorem getD_drop (a : List UInt8) (k i : Nat) : (a.drop k).getD i 0 = a.getD (k + i) 0 := by simp [List.getD_eq_getElem?_getD]
/-- what has been repeated a whole number of times can be repeated at once -/
theorem back_double (d q m : Nat) (out : List UInt8) (hd : 1 ≤ d) (hd2 : d ≤ out.length) (hm : m ≤ d * (q + 1)) :
    back out d (d * q + m) = back out d (d * q) ++ ((back out d (d * q)).drop (out.length - d)).take m := by
  have hl := back_length d (d * q) out
  have hq : d * (q + 1) = d * q + d := Nat.mul_succ d q
  have hlen : (((back out d (d * q)).drop (out.length - d)).take m).length = m := by simp; omega
  refine ext_getD (by rw [back_length, List.length_append, hlen, hl]; omega) ?_
  intro i hi
  rw [back_length] at hi
  have hpre : ∀ j, j < out.length + d * q → (back out d (d * q + m)).getD j 0 = (back out d (d * q)).getD j 0 := by
    intro j hj
    rw [back_add]
    exact back_getD_old _ _ _ _ (by omega)
  rw [getD_append]
  split
  · rename_i h; exact hpre i (by omega)
  · rename_i h
    rw [back_period d (d * q + m) out hd q i (by omega) (by omega), hpre _ (by omega), getD_take _ _ _ (by omega), getD_drop]
    congr 1
    omega

/-- what packed bytes stand for: part by part -/
def run (most : Nat) : Nat → List UInt8 → List UInt8 → List UInt8 × Nat
  | 0, _, _ => ([], 2)
  | _ + 1, [], _ => ([], 2)
  | f + 1, h :: b1, out =>
    match takeCount (h.toNat / 16) b1 with
    | none => ([], 2)
    | some (n, b2) =>
      if most < out.length + n then ([], 5)
      else if b2.length < n then ([], 2)
      else
        match b2.drop n with
        | [] => if h.toNat % 16 = 0 then (out ++ b2.take n, 0) else ([], 2)
        | [_] => ([], 2)
        | x :: y :: b3 =>
          if x.toNat + 256 * y.toNat = 0 ∨ out.length + n < x.toNat + 256 * y.toNat then ([], 2)
          else
            match takeCount (h.toNat % 16) b3 with
            | none => ([], 2)
            | some (n2, b4) =>
              if most < out.length + n + (n2 + 4) then ([], 5)
              else run most f b4 (back (out ++ b2.take n) (x.toNat + 256 * y.toNat) (n2 + 4))
/-- what Unpack answers -/
def unpack (b : List UInt8) (most : Int) : List UInt8 × Nat := if most < 0 then ([], 1) else run most.toNat (b.length + 1) b []

/-- the four bytes at a place, as a number -/
def at_ (b : List UInt8) (i : Nat) : Nat := (b.getD i 0).toNat
def quad (b : List UInt8) (i : Nat) : Nat := at_ b i + 256 * at_ b (i + 1) + 65536 * at_ b (i + 2) + 16777216 * at_ b (i + 3)
theorem at_lt (b : List UInt8) (i : Nat) : at_ b i < 256 := (b.getD i 0).toNat_lt
theorem quad_eq {b : List UInt8} {i k : Nat} (h : quad b i = quad b k) : at_ b i = at_ b k ∧ at_ b (i + 1) = at_ b (k + 1) ∧ at_ b (i + 2) = at_ b (k + 2) ∧ at_ b (i + 3) = at_ b (k + 3) := by
  unfold quad at h
  have h1 := at_lt b i
  have h2 := at_lt b (i + 1)
  have h3 := at_lt b (i + 2)
  have h4 := at_lt b (i + 3)
  have h5 := at_lt b k
  have h6 := at_lt b (k + 1)
  have h7 := at_lt b (k + 2)
  have h8 := at_lt b (k + 3)
  omega
theorem quad_lt (b : List UInt8) (i : Nat) : quad b i < 4294967296 := by
  unfold quad
  have h1 := at_lt b i
  have h2 := at_lt b (i + 1)
  have h3 := at_lt b (i + 2)
  have h4 := at_lt b (i + 3)
  omega
theorem at_get {b : List UInt8} {i : Nat} (h : i < b.length) : at_ b i = b[i].toNat := by simp [at_, List.getD_eq_getElem?_getD, List.getElem?_eq_getElem h]
theorem at_inj {b : List UInt8} {i k : Nat} (h : at_ b i = at_ b k) : b.getD i 0 = b.getD k 0 := UInt8.toNat_inj.1 h

/-- the last earlier place, from k downwards, with the same four bytes -/
def before (b : List UInt8) (i : Nat) : Nat → Option Nat
  | 0 => none
  | k + 1 => if i - k ≤ 65535 ∧ quad b k = quad b i then some k else before b i k
/-- r is the last place ahead of i, near enough, with the four bytes q -/
def IsLast (b : List UInt8) (i q : Nat) : Option Nat → Prop
  | none => ∀ k, k < i → i - k ≤ 65535 → quad b k ≠ q
  | some k => k < i ∧ i - k ≤ 65535 ∧ quad b k = q ∧ ∀ j, k < j → j < i → quad b j ≠ q
theorem before_last_aux (b : List UInt8) (i : Nat) : ∀ k, k ≤ i → (∀ j, k ≤ j → j < i → i - j ≤ 65535 → quad b j ≠ quad b i) → IsLast b i (quad b i) (before b i k)
  | 0, _, h => fun k hk hd => h k (by omega) hk hd
  | k + 1, hk, h => by
    rw [before]
    split
    · rename_i hc
      exact ⟨by omega, hc.1, hc.2, fun j h1 h2 => h j (by omega) h2 (by omega)⟩
    · rename_i hc
      refine before_last_aux b i k (by omega) fun j h1 h2 h3 => ?_
      rcases Nat.lt_or_ge k j with hlt | hge
      · exact h j (by omega) h2 h3
      · obtain rfl : j = k := by omega
        exact fun e => hc ⟨h3, e⟩
theorem before_last (b : List UInt8) (i : Nat) : IsLast b i (quad b i) (before b i i) := before_last_aux b i i (Nat.le_refl _) fun j h1 h2 => by omega
theorem IsLast.unique {b : List UInt8} {i q : Nat} : ∀ {r s : Option Nat}, IsLast b i q r → IsLast b i q s → r = s
  | none, none, _, _ => rfl
  | none, some k, h1, h2 => absurd h2.2.2.1 (h1 k h2.1 h2.2.1)
  | some k, none, h1, h2 => absurd h1.2.2.1 (h2 k h1.1 h1.2.1)
  | some k, some j, h1, h2 => by
    rcases Nat.lt_trichotomy k j with h | h | h
    · exact absurd h2.2.2.1 (h1.2.2.2 j h h2.1)
    · rw [h]
    · exact absurd h1.2.2.1 (h2.2.2.2 k h h1.1)
/-- one place further: what was last stays last, but for the place's own four bytes, and for what is too far now -/
theorem IsLast.next {b : List UInt8} {i q : Nat} {r : Option Nat} (h : IsLast b i q r) (hq : quad b i ≠ q) (hfar : r ≠ some (i - 65535) ∨ i < 65535) : IsLast b (i + 1) q r := by
  match r, h with
  | none, h =>
    intro k hk hd
    rcases Nat.lt_or_ge k i with hlt | hge
    · exact h k hlt (by omega)
    · obtain rfl : k = i := by omega
      exact hq
  | some k, h =>
    have hk : ¬ (i - k = 65535) := by
      intro e
      rcases hfar with hf | hf
      · exact hf (by rw [show k = i - 65535 by omega])
      · omega
    refine ⟨by have := h.1; omega, by have := h.2.1; omega, h.2.2.1, fun j h1 h2 => ?_⟩
    rcases Nat.lt_or_ge j i with hlt | hge
    · exact h.2.2.2 j h1 hlt
    · obtain rfl : j = i := by omega
      exact hq
theorem IsLast.next_far {b : List UInt8} {i q : Nat} (h : IsLast b i q (some (i - 65535))) (hi : 65535 ≤ i) (hq : quad b i ≠ q) : IsLast b (i + 1) q none := by
  intro k hk hd
  rcases Nat.lt_or_ge k i with hlt | hge
  · exact h.2.2.2 k (by omega) hlt
  · obtain rfl : k = i := by omega
    exact hq
theorem IsLast.here (b : List UInt8) (i : Nat) : IsLast b (i + 1) (quad b i) (some i) := ⟨by omega, by omega, rfl, fun j h1 h2 => by omega⟩

/-- how many bytes agree from two places on -/
def cpl : List UInt8 → List UInt8 → Nat
  | x :: xs, y :: ys => if x = y then cpl xs ys + 1 else 0
  | _, _ => 0
theorem cpl_step {b : List UInt8} {k i : Nat} (hk : k < i) : cpl (b.drop k) (b.drop i) = if i < b.length ∧ at_ b k = at_ b i then cpl (b.drop (k + 1)) (b.drop (i + 1)) + 1 else 0 := by
  rcases Nat.lt_or_ge i b.length with hlt | hge
  · rw [List.drop_eq_getElem_cons (show k < b.length by omega), List.drop_eq_getElem_cons hlt, cpl]
    have e : b[k] = b[i] ↔ (i < b.length ∧ at_ b k = at_ b i) := by
      rw [at_get hlt, at_get (show k < b.length by omega)]
      exact ⟨fun e => ⟨hlt, by rw [e]⟩, fun e => UInt8.toNat_inj.1 e.2⟩
    by_cases h : b[k] = b[i]
    · rw [if_pos h, if_pos (e.1 h)]
    · rw [if_neg h, if_neg (fun x => h (e.2 x))]
  · rw [List.drop_eq_nil_of_le hge, if_neg (by omega)]
    cases b.drop k <;> rfl
theorem cpl_le {b : List UInt8} {k : Nat} : ∀ {i : Nat}, k < i → i ≤ b.length → i + cpl (b.drop k) (b.drop i) ≤ b.length := by
  intro i hk hi
  generalize hf : b.length - i = f
  induction f generalizing k i with
  | zero =>
    rw [cpl_step hk, if_neg (by omega)]; omega
  | succ f ih =>
    rw [cpl_step hk]
    split
    · have := ih (k := k + 1) (i := i + 1) (by omega) (by omega) (by omega)
      omega
    · omega
theorem cpl_get {b : List UInt8} {k : Nat} : ∀ {i : Nat}, k < i → ∀ j, j < cpl (b.drop k) (b.drop i) → at_ b (k + j) = at_ b (i + j) := by
  intro i hk j
  induction j generalizing k i with
  | zero =>
    intro h
    rw [cpl_step hk] at h
    split at h
    · rename_i hc; exact hc.2
    · omega
  | succ j ih =>
    intro h
    rw [cpl_step hk] at h
    split at h
    · have := ih (k := k + 1) (i := i + 1) (by omega) (by omega)
      rw [show k + (j + 1) = k + 1 + j by omega, show i + (j + 1) = i + 1 + j by omega]
      exact this
    · omega
theorem cpl_four {b : List UInt8} {k i : Nat} (hk : k < i) (hi : i + 4 ≤ b.length) (h : quad b k = quad b i) : 4 ≤ cpl (b.drop k) (b.drop i) ∧ cpl (b.drop k) (b.drop i) = 4 + cpl (b.drop (k + 4)) (b.drop (i + 4)) := by
  obtain ⟨h0, h1, h2, h3⟩ := quad_eq h
  rw [cpl_step hk, if_pos ⟨by omega, h0⟩, cpl_step (by omega), if_pos ⟨by omega, h1⟩, cpl_step (by omega), if_pos ⟨by omega, h2⟩, cpl_step (by omega), if_pos ⟨by omega, h3⟩]
  simp only [Nat.add_assoc, Nat.reduceAdd]
  omega

/-- the packed bytes of b, from i on; the literals since the last part begin at s -/
def pack (b : List UInt8) : Nat → Nat → Nat → List UInt8
  | 0, _, _ => []
  | f + 1, s, i =>
    if i + 4 ≤ b.length then
      match before b i i with
      | none => pack b f s (i + 1)
      | some k => part ((b.drop s).take (i - s)) (i - k) (cpl (b.drop k) (b.drop i)) ++ pack b f (i + cpl (b.drop k) (b.drop i)) (i + cpl (b.drop k) (b.drop i))
    else lits (b.drop s) 0
def packed (b : List UInt8) : List UInt8 := pack b (b.length + 1) 0 0

/-- never long -/
theorem pack_length (b : List UInt8) : ∀ f s i, s ≤ i → i ≤ b.length → (pack b f s i).length ≤ (b.length - s) + (b.length - s) / 255 + 2
  | 0, _, _, _, _ => by simp [pack]
  | f + 1, s, i, hs, hi => by
    rw [pack]
    split
    · rename_i h4
      have hlast := before_last b i
      generalize before b i i = r at hlast
      match r, hlast with
      | none, _ => exact pack_length b f s (i + 1) (by omega) (by omega)
      | some k, hlast =>
        have hc := cpl_le hlast.1 hi
        have h4' := (cpl_four hlast.1 h4 hlast.2.2.1).1
        dsimp only
        generalize cpl (b.drop k) (b.drop i) = n at *
        have ih := pack_length b f (i + n) (i + n) (Nat.le_refl _) hc
        have hl : ((b.drop s).take (i - s)).length = i - s := by simp; omega
        rw [List.length_append, part_length, hl]
        have e1 := exts_length_le (i - s)
        have e2 : (exts (n - 4)).length ≤ n - 4 := by
          by_cases h : n - 4 < 15
          · rw [exts_small h]; simp
          · rw [exts_great h, ext_length]; omega
        omega
    · rw [lits_length]
      have e1 := exts_length_le (b.drop s).length
      simp only [List.length_drop] at *
      omega
theorem packed_length (b : List UInt8) : (packed b).length ≤ b.length + b.length / 255 + 2 := pack_length b _ 0 0 (Nat.le_refl _) (Nat.zero_le _)

theorem toNat_head {n m : Nat} (hm : m ≤ 15) : (head n m).toNat / 16 = min n 15 ∧ (head n m).toNat % 16 = m := by
  unfold head
  rw [UInt8.toNat_ofNat']
  omega
theorem take_back {b : List UInt8} {k i n : Nat} (hk : k < i) (hin : i + n ≤ b.length) (h : ∀ j, j < n → at_ b (k + j) = at_ b (i + j)) : back (b.take i) (i - k) n = b.take (i + n) := by
  induction n with
  | zero => rfl
  | succ n ih =>
    rw [back_snoc, ih (by omega) (fun j hj => h j (by omega))]
    have hl : (b.take (i + n)).length = i + n := by simp; omega
    rw [hl, show i + n - (i - k) = k + n by omega, getD_take _ _ _ (by omega), at_inj (h n (by omega))]
    rw [← Nat.add_assoc, List.take_succ_eq_append_getElem (show i + n < b.length by omega)]
    simp [List.getD_eq_getElem?_getD, List.getElem?_eq_getElem (show i + n < b.length by omega)]
theorem run_cons (most f : Nat) (h : UInt8) (b1 out : List UInt8) : run most (f + 1) (h :: b1) out =
    match takeCount (h.toNat / 16) b1 with
    | none => ([], 2)
    | some (n, b2) =>
      if most < out.length + n then ([], 5)
      else if b2.length < n then ([], 2)
      else
        match b2.drop n with
        | [] => if h.toNat % 16 = 0 then (out ++ b2.take n, 0) else ([], 2)
        | [_] => ([], 2)
        | x :: y :: b3 =>
          if x.toNat + 256 * y.toNat = 0 ∨ out.length + n < x.toNat + 256 * y.toNat then ([], 2)
          else
            match takeCount (h.toNat % 16) b3 with
            | none => ([], 2)
            | some (n2, b4) =>
              if most < out.length + n + (n2 + 4) then ([], 5)
              else run most f b4 (back (out ++ b2.take n) (x.toNat + 256 * y.toNat) (n2 + 4)) := rfl

/-- THERE AND BACK -/
theorem run_pack (b : List UInt8) (most : Nat) : ∀ f F s i, s ≤ i → i ≤ b.length → b.length - i < f → (pack b f s i).length < F → s ≤ most →
    run most F (pack b f s i) (b.take s) = if b.length ≤ most then (b, 0) else ([], 5)
  | 0, _, _, _, _, _, h, _, _ => by omega
  | f + 1, F, s, i, hs, hi, hf, hF, hm => by
    obtain ⟨F, rfl⟩ : ∃ F', F = F' + 1 := ⟨F - 1, by omega⟩
    have hout : (b.take s).length = s := by simp; omega
    rw [pack] at hF ⊢
    split
    · rename_i h4
      rw [if_pos h4] at hF
      have hlast := before_last b i
      generalize before b i i = r at hlast hF
      match r, hlast with
      | none, _ => exact run_pack b most f (F + 1) s (i + 1) (by omega) (by omega) (by omega) hF hm
      | some k, hlast =>
        have hc := cpl_le hlast.1 hi
        have h4' := (cpl_four hlast.1 h4 hlast.2.2.1).1
        have hg := cpl_get (b := b) hlast.1
        dsimp only at hF ⊢
        generalize cpl (b.drop k) (b.drop i) = n at *
        have hl : ((b.drop s).take (i - s)).length = i - s := by simp; omega
        have hki := hlast.1
        have hkd := hlast.2.1
        rw [List.length_append, part_length] at hF
        have ih := run_pack b most f F (i + n) (i + n) (Nat.le_refl _) hc (by omega) (by omega)
        generalize pack b f (i + n) (i + n) = rest at *
        have e : part ((b.drop s).take (i - s)) (i - k) n ++ rest = head (i - s) (min (n - 4) 15) :: (exts (i - s) ++ ((b.drop s).take (i - s) ++ (UInt8.ofNat (i - k) :: UInt8.ofNat ((i - k) / 256) :: (exts (n - 4) ++ rest)))) := by
          simp [part, lits, hl]
        have hh := toNat_head (n := i - s) (m := min (n - 4) 15) (by omega)
        rw [e, run_cons, hh.1, hh.2, takeCount_exts]
        dsimp only
        rw [hout, show s + (i - s) = i by omega]
        by_cases h1 : most < i
        · rw [if_pos h1, if_neg (by omega)]
        · rw [if_neg h1, if_neg (by simp only [List.length_append, hl]; omega), List.drop_left' hl, List.take_left' hl]
          dsimp only
          have hd : (UInt8.ofNat (i - k)).toNat + 256 * (UInt8.ofNat ((i - k) / 256)).toNat = i - k := by
            rw [UInt8.toNat_ofNat', UInt8.toNat_ofNat']; omega
          rw [hd, if_neg (by omega), takeCount_exts]
          dsimp only
          rw [show n - 4 + 4 = n by omega]
          have hpre : b.take s ++ (b.drop s).take (i - s) = b.take i := by
            rw [← List.take_add, show s + (i - s) = i by omega]
          by_cases h2 : most < i + n
          · rw [if_pos h2, if_neg (by omega)]
          · rw [if_neg h2, hpre, take_back hki hc hg]
            exact ih (by omega)
    · rename_i h4
      have hl : (b.drop s).length = b.length - s := by simp
      have e : lits (b.drop s) 0 = head (b.length - s) 0 :: (exts (b.length - s) ++ b.drop s) := by simp [lits]
      have hh := toNat_head (n := b.length - s) (m := 0) (by omega)
      rw [e, run_cons, hh.1, hh.2, takeCount_exts]
      dsimp only
      rw [hout, show s + (b.length - s) = b.length by omega]
      by_cases h1 : most < b.length
      · rw [if_pos h1, if_neg (by omega)]
      · rw [if_neg h1, if_neg (by rw [hl]; omega), List.drop_of_length_le (by rw [hl]; exact Nat.le_refl _)]
        dsimp only
        have ht : (b.drop s).take (b.length - s) = b.drop s := List.take_of_length_le (by rw [hl]; exact Nat.le_refl _)
        rw [if_pos rfl, if_pos (by omega), ht, List.take_append_drop]
theorem unpack_packed (b : List UInt8) (most : Int) : unpack (packed b) most = if most < 0 then ([], 1) else if (b.length : Int) ≤ most then (b, 0) else ([], 5) := by
  unfold unpack
  split
  · rfl
  · have h := run_pack b most.toNat (b.length + 1) ((packed b).length + 1) 0 0 (Nat.le_refl _) (Nat.zero_le _) (by omega) (by unfold packed; omega) (Nat.zero_le _)
    have e : pack b (b.length + 1) 0 0 = packed b := rfl
    rw [e, List.take_zero] at h
    rw [h]
    by_cases hb : (b.length : Int) ≤ most
    · rw [if_pos (by omega), if_pos hb]
    · rw [if_neg (by omega), if_neg hb]

/-- MORE ROOM -/
theorem run_room (m : Nat) (m2 : Nat) (hm : m ≤ m2) : ∀ f b out, out.length ≤ m → ((run m f b out).2 = 0 → run m2 f b out = run m f b out ∧ (run m f b out).1.length ≤ m) ∧ ((run m f b out).2 ≠ 0 → (run m f b out).1 = [])
  | 0, b, out, _ => by simp [run]
  | f + 1, [], out, _ => by simp [run]
  | f + 1, h :: b1, out, ho => by
    rw [run_cons, run_cons]
    cases takeCount (h.toNat / 16) b1 with
    | none => simp
    | some p =>
      obtain ⟨n, b2⟩ := p
      dsimp only
      by_cases h1 : m < out.length + n
      · rw [if_pos h1]; simp
      · rw [if_neg h1, if_neg (show ¬ m2 < out.length + n by omega)]
        by_cases h2 : b2.length < n
        · rw [if_pos h2]; simp
        · simp only [if_neg h2]
          rcases hd : b2.drop n with _ | ⟨x, _ | ⟨y, b3⟩⟩
          · dsimp only
            split
            · simp; omega
            · simp
          · simp
          · dsimp only
            by_cases h3 : x.toNat + 256 * y.toNat = 0 ∨ out.length + n < x.toNat + 256 * y.toNat
            · rw [if_pos h3]; simp
            · simp only [if_neg h3]
              cases takeCount (h.toNat % 16) b3 with
              | none => simp
              | some p =>
                obtain ⟨n2, b4⟩ := p
                dsimp only
                by_cases h5 : m < out.length + n + (n2 + 4)
                · rw [if_pos h5]; simp
                · rw [if_neg h5, if_neg (show ¬ m2 < out.length + n + (n2 + 4) by omega)]
                  exact run_room m m2 hm f b4 (back (out ++ b2.take n) (x.toNat + 256 * y.toNat) (n2 + 4)) (by rw [back_length, List.length_append, List.length_take]; omega)
theorem run_err (m : Nat) : ∀ f b out, (run m f b out).2 ≤ 5
  | 0, b, out => by simp [run]
  | f + 1, [], out => by simp [run]
  | f + 1, h :: b1, out => by
    rw [run_cons]
    cases takeCount (h.toNat / 16) b1 with
    | none => simp
    | some p =>
      obtain ⟨n, b2⟩ := p
      dsimp only
      split
      · simp
      · split
        · simp
        · rcases hd : b2.drop n with _ | ⟨x, _ | ⟨y, b3⟩⟩
          · dsimp only
            split <;> simp
          · simp
          · dsimp only
            split
            · simp
            · cases takeCount (h.toNat % 16) b3 with
              | none => simp
              | some p =>
                obtain ⟨n2, b4⟩ := p
                dsimp only
                split
                · simp
                · exact run_err m f b4 _
theorem run_le (m : Nat) (f : Nat) (b out : List UInt8) (ho : out.length ≤ m) : (run m f b out).1.length ≤ m := by
  have h := run_room m m (Nat.le_refl _) f b out ho
  by_cases e : (run m f b out).2 = 0
  · exact (h.1 e).2
  · rw [h.2 e]; simp

theorem pack_abc : packed [97, 98, 99, 97, 98, 99, 97, 98, 99] = [50, 97, 98, 99, 3, 0, 0] := by decide +kernel
theorem unpack_abc : unpack [50, 97, 98, 99, 3, 0, 0] 9 = ([97, 98, 99, 97, 98, 99, 97, 98, 99], 0) := by decide +kernel
end Go.Proofs.Ytonknkmbkfndcaa.Lz
