/- Texts of several layers, one behind the other: Lz LzFns LzHist LzAdd LzApp LzPack LzRefA LzRefB. -/
import Derived.Test.YtoebeibmmclhpaaGreatGTA
import Derived.Deep.QuietTactic
import Derived.BigQuiet
import Derived.WalkSpells
import Derived.WalkLawsBesides
import Derived.Laws.BitsAllLaws
import Derived.Maps.OwnSet
import Derived.Deep.RegionHeld3
import Derived.StillTailTactics
import Derived.Carry
/- Packed bytes, plain: parts, how they are laid and read; no program. -/
namespace Go.Proofs.YtoebeibmmclhpaaGreat.Lz
/-- the bytes of an extension that adds up to k -/
def ext (k : Nat) : List UInt8 := if k < 255 then [UInt8.ofNat k] else 255 :: ext (k - 255)
termination_by k
decreasing_by omega
/-- the extension of a count, where it has one -/
def exts (n : Nat) : List UInt8 := if n < 15 then [] else ext (n - 15)
/-- the first byte of a part -/
def head (n m : Nat) : UInt8 := UInt8.ofNat (16 * min n 15 + m)
/-- a part up to the end of its literals -/
def lits (l : List UInt8) (m : Nat) : List UInt8 := [head l.length m] ++ exts l.length ++ l
/-- a part -/
def part (l : List UInt8) (d n : Nat) : List UInt8 := lits l (min (n - 4) 15) ++ [UInt8.ofNat d, UInt8.ofNat (d / 256)] ++ exts (n - 4)
theorem ext_small {k : Nat} (h : k < 255) : ext k = [UInt8.ofNat k] := by rw [ext, if_pos h]
theorem ext_great {k : Nat} (h : ¬ k < 255) : ext k = 255 :: ext (k - 255) := by rw [ext, if_neg h]
theorem ext_length (k : Nat) : (ext k).length = k / 255 + 1 := by
  induction k using Nat.strongRecOn with
  | _ k ih =>
    by_cases h : k < 255
    · rw [ext_small h, List.length_singleton]; omega
    · rw [ext_great h, List.length_cons, ih _ (by omega)]; omega
theorem exts_small {n : Nat} (h : n < 15) : exts n = [] := by unfold exts; rw [if_pos h]
theorem exts_great {n : Nat} (h : ¬ n < 15) : exts n = ext (n - 15) := by unfold exts; rw [if_neg h]
theorem exts_length_le (n : Nat) : (exts n).length ≤ n / 255 + 1 := by
  by_cases h : n < 15
  · rw [exts_small h]; simp
  · rw [exts_great h, ext_length]; omega
theorem lits_length (l : List UInt8) (m : Nat) : (lits l m).length = 1 + (exts l.length).length + l.length := by simp [lits]; omega
theorem part_length (l : List UInt8) (d n : Nat) : (part l d n).length = 3 + (exts l.length).length + l.length + (exts (n - 4)).length := by simp [part, lits_length]; omega
/-- read an extension -/
def takeExt : Nat → List UInt8 → Option (Nat × List UInt8)
  | _, [] => none
  | n, x :: r => if x.toNat = 255 then takeExt (n + 255) r else some (n + x.toNat, r)
/-- read a count of which half a byte is known -/
def takeCount (h : Nat) (b : List UInt8) : Option (Nat × List UInt8) := if h < 15 then some (h, b) else takeExt 15 b
theorem takeExt_ext (k : Nat) : ∀ (n : Nat) (r : List UInt8), takeExt n (ext k ++ r) = some (n + k, r) := by
  induction k using Nat.strongRecOn with
  | _ k ih =>
    intro n r
    by_cases h : k < 255
    · rw [ext_small h, List.singleton_append, takeExt, UInt8.toNat_ofNat', if_neg (by omega)]
      rw [show k % 2 ^ 8 = k by omega]
    · rw [ext_great h, List.cons_append, takeExt, if_pos (show (255 : UInt8).toNat = 255 from rfl), ih _ (by omega), show n + 255 + (k - 255) = n + k by omega]
theorem takeCount_exts (n : Nat) (r : List UInt8) : takeCount (min n 15) (exts n ++ r) = some (n, r) := by
  unfold takeCount
  by_cases h : n < 15
  · rw [if_pos (by omega), exts_small h, Nat.min_eq_left (by omega)]; rfl
  · rw [if_neg (by omega), exts_great h, takeExt_ext, show 15 + (n - 15) = n by omega]
theorem takeExt_length : ∀ (b : List UInt8) (n c : Nat) (r : List UInt8), takeExt n b = some (c, r) → r.length < b.length ∧ r = b.drop (b.length - r.length) ∧ c ≤ n + 255 * (b.length - r.length)
  | [], _, _, _, h => by cases h
  | x :: t, n, c, r, h => by
    rw [takeExt] at h
    split at h
    · have ih := takeExt_length t _ _ _ h
      refine ⟨by simp; omega, ?_, ?_⟩
      · rw [List.length_cons, show t.length + 1 - r.length = (t.length - r.length) + 1 by omega, List.drop_succ_cons]; exact ih.2.1
      · simp only [List.length_cons]; omega
    · injection h with h
      injection h with h1 h2
      subst h1 h2
      have := x.toNat_lt
      refine ⟨by simp, by simp, by simp only [List.length_cons]; omega⟩
theorem takeCount_length {b r : List UInt8} {h c : Nat} (hh : h ≤ 15) (e : takeCount h b = some (c, r)) : r.length ≤ b.length ∧ r = b.drop (b.length - r.length) ∧ c ≤ 15 + 255 * b.length := by
  unfold takeCount at e
  split at e
  · injection e with e
    injection e with h1 h2
    subst h1 h2
    exact ⟨Nat.le_refl _, by simp, by omega⟩
  · have := takeExt_length _ _ _ _ e
    exact ⟨by omega, this.2.1, by omega⟩
/-- n bytes more, each equal to the one that precedes it by d -/
def back (out : List UInt8) (d : Nat) : Nat → List UInt8
  | 0 => out
  | n + 1 => back (out ++ [out.getD (out.length - d) 0]) d n
theorem back_length (d : Nat) : ∀ (n : Nat) (out : List UInt8), (back out d n).length = out.length + n
  | 0, out => rfl
  | n + 1, out => by rw [back, back_length d n]; simp; omega
theorem back_snoc (d : Nat) : ∀ (n : Nat) (out : List UInt8), back out d (n + 1) = back out d n ++ [(back out d n).getD ((back out d n).length - d) 0]
  | 0, out => rfl
  | n + 1, out => by rw [back, back_snoc d n]; rfl
theorem back_getD_old (d : Nat) (n : Nat) (out : List UInt8) (i : Nat) (h : i < out.length) : (back out d n).getD i 0 = out.getD i 0 := by
  induction n with
  | zero => rfl
  | succ n ih =>
    rw [back_snoc, ← ih]
    have := back_length d n out
    rw [List.getD_eq_getElem?_getD, List.getElem?_append_left (by omega), ← List.getD_eq_getElem?_getD]
theorem back_getD_new (d : Nat) (n : Nat) (out : List UInt8) (hd : 1 ≤ d) (i : Nat) (h : out.length ≤ i) (h2 : i < out.length + n) : (back out d n).getD i 0 = (back out d n).getD (i - d) 0 := by
  induction n with
  | zero => omega
  | succ n ih =>
    have hl := back_length d n out
    rw [back_snoc]
    by_cases e : i < out.length + n
    · have e1 : ((back out d n) ++ [(back out d n).getD ((back out d n).length - d) 0]).getD i 0 = (back out d n).getD i 0 := by
        rw [List.getD_eq_getElem?_getD, List.getElem?_append_left (by omega), ← List.getD_eq_getElem?_getD]
      have e2 : ((back out d n) ++ [(back out d n).getD ((back out d n).length - d) 0]).getD (i - d) 0 = (back out d n).getD (i - d) 0 := by
        rw [List.getD_eq_getElem?_getD, List.getElem?_append_left (by omega), ← List.getD_eq_getElem?_getD]
      rw [e1, e2]
      exact ih e
    · obtain rfl : i = (back out d n).length := by omega
      have e2 : ((back out d n) ++ [(back out d n).getD ((back out d n).length - d) 0]).getD ((back out d n).length - d) 0 = (back out d n).getD ((back out d n).length - d) 0 := by
        rcases Nat.lt_or_ge ((back out d n).length - d) (back out d n).length with hlt | hge
        · rw [List.getD_eq_getElem?_getD, List.getElem?_append_left hlt, ← List.getD_eq_getElem?_getD]
        · have h0 : (back out d n).length = 0 := by omega
          rw [List.eq_nil_of_length_eq_zero h0]; simp
      rw [e2, List.getD_eq_getElem?_getD, List.getElem?_append_right (Nat.le_refl _)]
      simp
theorem back_add (d : Nat) : ∀ (n m : Nat) (out : List UInt8), back out d (n + m) = back (back out d n) d m
  | 0, m, out => by rw [Nat.zero_add]; rfl
  | n + 1, m, out => by rw [show n + 1 + m = (n + m) + 1 by omega, back, back_add d n m]; rfl
/-- the period -/
theorem back_period (d : Nat) (n : Nat) (out : List UInt8) (hd : 1 ≤ d) : ∀ q i, out.length + d * q ≤ i → i < out.length + n → (back out d n).getD i 0 = (back out d n).getD (i - d * (q + 1)) 0
  | 0, i, h, h2 => by rw [back_getD_new d n out hd i (by omega) h2, Nat.zero_add, Nat.mul_one]
  | q + 1, i, h, h2 => by
    have hq : d * (q + 1) = d * q + d := Nat.mul_succ d q
    have hq2 : d * (q + 1 + 1) = d * q + d + d := by rw [Nat.mul_succ, hq]
    rw [back_getD_new d n out hd i (by omega) h2, back_period d n out hd q (i - d) (by omega) (by omega)]
    congr 1
    omega
theorem ext_getD {a b : List UInt8} (hl : a.length = b.length) (h : ∀ i, i < a.length → a.getD i 0 = b.getD i 0) : a = b := by
  apply List.ext_getElem hl
  intro i h1 h2
  have := h i h1
  simpa [List.getD_eq_getElem?_getD, List.getElem?_eq_getElem h1, List.getElem?_eq_getElem h2] using this
theorem getD_append (a b : List UInt8) (i : Nat) : (a ++ b).getD i 0 = if i < a.length then a.getD i 0 else b.getD (i - a.length) 0 := by
  split
  · rename_i h; rw [List.getD_eq_getElem?_getD, List.getElem?_append_left h, ← List.getD_eq_getElem?_getD]
  · rename_i h; rw [List.getD_eq_getElem?_getD, List.getElem?_append_right (by omega), ← List.getD_eq_getElem?_getD]
theorem getD_take (a : List UInt8) (k i : Nat) (h : i < k) : (a.take k).getD i 0 = a.getD i 0 := by simp [List.getD_eq_getElem?_getD, h]
theorem getD_drop (a : List UInt8) (k i : Nat) : (a.drop k).getD i 0 = a.getD (k + i) 0 := by simp [List.getD_eq_getElem?_getD]
/-- what has been repeated a whole number of times can be repeated at once -/
theorem back_double (d q m : Nat) (out : List UInt8) (hd : 1 ≤ d) (hd2 : d ≤ out.length) (hm : m ≤ d * (q + 1)) :
    back out d (d * q + m) = back out d (d * q) ++ ((back out d (d * q)).drop (out.length - d)).take m := by
  have hl := back_length d (d * q) out
  have hq : d * (q + 1) = d * q + d := Nat.mul_succ d q
  have hlen : (((back out d (d * q)).drop (out.length - d)).take m).length = m := by simp; omega
  refine ext_getD (by rw [back_length, List.length_append, hlen, hl]; omega) ?_
  intro i hi
  rw [back_length] at hi
  have hpre : ∀ j, j < out.length + d * q → (back out d (d * q + m)).getD j 0 = (back out d (d * q)).getD j 0 := by
    intro j hj
    rw [back_add]
    exact back_getD_old _ _ _ _ (by omega)
  rw [getD_append]
  split
  · rename_i h; exact hpre i (by omega)
  · rename_i h
    rw [back_period d (d * q + m) out hd q i (by omega) (by omega), hpre _ (by omega), getD_take _ _ _ (by omega), getD_drop]
    congr 1
    omega
/-- what packed bytes stand for: part by part -/
def run (most : Nat) : Nat → List UInt8 → List UInt8 → List UInt8 × Nat
  | 0, _, _ => ([], 2)
  | _ + 1, [], _ => ([], 2)
  | f + 1, h :: b1, out =>
    match takeCount (h.toNat / 16) b1 with
    | none => ([], 2)
    | some (n, b2) =>
      if most < out.length + n then ([], 5)
      else if b2.length < n then ([], 2)
      else
        match b2.drop n with
        | [] => if h.toNat % 16 = 0 then (out ++ b2.take n, 0) else ([], 2)
        | [_] => ([], 2)
        | x :: y :: b3 =>
          if x.toNat + 256 * y.toNat = 0 ∨ out.length + n < x.toNat + 256 * y.toNat then ([], 2)
          else
            match takeCount (h.toNat % 16) b3 with
            | none => ([], 2)
            | some (n2, b4) =>
              if most < out.length + n + (n2 + 4) then ([], 5)
              else run most f b4 (back (out ++ b2.take n) (x.toNat + 256 * y.toNat) (n2 + 4))
/-- what Unpack answers -/
def unpack (b : List UInt8) (most : Int) : List UInt8 × Nat := if most < 0 then ([], 1) else run most.toNat (b.length + 1) b []
/-- the four bytes at a place, as a number -/
def at_ (b : List UInt8) (i : Nat) : Nat := (b.getD i 0).toNat
def quad (b : List UInt8) (i : Nat) : Nat := at_ b i + 256 * at_ b (i + 1) + 65536 * at_ b (i + 2) + 16777216 * at_ b (i + 3)
theorem at_lt (b : List UInt8) (i : Nat) : at_ b i < 256 := (b.getD i 0).toNat_lt
theorem quad_eq {b : List UInt8} {i k : Nat} (h : quad b i = quad b k) : at_ b i = at_ b k ∧ at_ b (i + 1) = at_ b (k + 1) ∧ at_ b (i + 2) = at_ b (k + 2) ∧ at_ b (i + 3) = at_ b (k + 3) := by
  unfold quad at h
  have h1 := at_lt b i
  have h2 := at_lt b (i + 1)
  have h3 := at_lt b (i + 2)
  have h4 := at_lt b (i + 3)
  have h5 := at_lt b k
  have h6 := at_lt b (k + 1)
  have h7 := at_lt b (k + 2)
  have h8 := at_lt b (k + 3)
  omega
theorem quad_lt (b : List UInt8) (i : Nat) : quad b i < 4294967296 := by
  unfold quad
  have h1 := at_lt b i
  have h2 := at_lt b (i + 1)
  have h3 := at_lt b (i + 2)
  have h4 := at_lt b (i + 3)
  omega
theorem at_get {b : List UInt8} {i : Nat} (h : i < b.length) : at_ b i = b[i].toNat := by simp [at_, List.getD_eq_getElem?_getD, List.getElem?_eq_getElem h]
theorem at_inj {b : List UInt8} {i k : Nat} (h : at_ b i = at_ b k) : b.getD i 0 = b.getD k 0 := UInt8.toNat_inj.1 h
/-- the last earlier place, from k downwards, with the same four bytes -/
def before (b : List UInt8) (i : Nat) : Nat → Option Nat
  | 0 => none
  | k + 1 => if i - k ≤ 65535 ∧ quad b k = quad b i then some k else before b i k
/-- r is the last place ahead of i, near enough, with the four bytes q -/
def IsLast (b : List UInt8) (i q : Nat) : Option Nat → Prop
  | none => ∀ k, k < i → i - k ≤ 65535 → quad b k ≠ q
  | some k => k < i ∧ i - k ≤ 65535 ∧ quad b k = q ∧ ∀ j, k < j → j < i → quad b j ≠ q
theorem before_last_aux (b : List UInt8) (i : Nat) : ∀ k, k ≤ i → (∀ j, k ≤ j → j < i → i - j ≤ 65535 → quad b j ≠ quad b i) → IsLast b i (quad b i) (before b i k)
  | 0, _, h => fun k hk hd => h k (by omega) hk hd
  | k + 1, hk, h => by
    rw [before]
    split
    · rename_i hc
      exact ⟨by omega, hc.1, hc.2, fun j h1 h2 => h j (by omega) h2 (by omega)⟩
    · rename_i hc
      refine before_last_aux b i k (by omega) fun j h1 h2 h3 => ?_
      rcases Nat.lt_or_ge k j with hlt | hge
      · exact h j (by omega) h2 h3
      · obtain rfl : j = k := by omega
        exact fun e => hc ⟨h3, e⟩
theorem before_last (b : List UInt8) (i : Nat) : IsLast b i (quad b i) (before b i i) := before_last_aux b i i (Nat.le_refl _) fun j h1 h2 => by omega
theorem IsLast.unique {b : List UInt8} {i q : Nat} : ∀ {r s : Option Nat}, IsLast b i q r → IsLast b i q s → r = s
  | none, none, _, _ => rfl
  | none, some k, h1, h2 => absurd h2.2.2.1 (h1 k h2.1 h2.2.1)
  | some k, none, h1, h2 => absurd h1.2.2.1 (h2 k h1.1 h1.2.1)
  | some k, some j, h1, h2 => by
    rcases Nat.lt_trichotomy k j with h | h | h
    · exact absurd h2.2.2.1 (h1.2.2.2 j h h2.1)
    · rw [h]
    · exact absurd h1.2.2.1 (h2.2.2.2 k h h1.1)
/-- one place further: what was last stays last, but for the place's own four bytes, and for what is too far now -/
theorem IsLast.next {b : List UInt8} {i q : Nat} {r : Option Nat} (h : IsLast b i q r) (hq : quad b i ≠ q) (hfar : r ≠ some (i - 65535) ∨ i < 65535) : IsLast b (i + 1) q r := by
  match r, h with
  | none, h =>
    intro k hk hd
    rcases Nat.lt_or_ge k i with hlt | hge
    · exact h k hlt (by omega)
    · obtain rfl : k = i := by omega
      exact hq
  | some k, h =>
    have hk : ¬ (i - k = 65535) := by
      intro e
      rcases hfar with hf | hf
      · exact hf (by rw [show k = i - 65535 by omega])
      · omega
    refine ⟨by have := h.1; omega, by have := h.2.1; omega, h.2.2.1, fun j h1 h2 => ?_⟩
    rcases Nat.lt_or_ge j i with hlt | hge
    · exact h.2.2.2 j h1 hlt
    · obtain rfl : j = i := by omega
      exact hq
theorem IsLast.next_far {b : List UInt8} {i q : Nat} (h : IsLast b i q (some (i - 65535))) (hi : 65535 ≤ i) (hq : quad b i ≠ q) : IsLast b (i + 1) q none := by
  intro k hk hd
  rcases Nat.lt_or_ge k i with hlt | hge
  · exact h.2.2.2 k (by omega) hlt
  · obtain rfl : k = i := by omega
    exact hq
theorem IsLast.here (b : List UInt8) (i : Nat) : IsLast b (i + 1) (quad b i) (some i) := ⟨by omega, by omega, rfl, fun j h1 h2 => by omega⟩
/-- how many bytes agree from two places on -/
def cpl : List UInt8 → List UInt8 → Nat
  | x :: xs, y :: ys => if x = y then cpl xs ys + 1 else 0
  | _, _ => 0
theorem cpl_step {b : List UInt8} {k i : Nat} (hk : k < i) : cpl (b.drop k) (b.drop i) = if i < b.length ∧ at_ b k = at_ b i then cpl (b.drop (k + 1)) (b.drop (i + 1)) + 1 else 0 := by
  rcases Nat.lt_or_ge i b.length with hlt | hge
  · rw [List.drop_eq_getElem_cons (show k < b.length by omega), List.drop_eq_getElem_cons hlt, cpl]
    have e : b[k] = b[i] ↔ (i < b.length ∧ at_ b k = at_ b i) := by
      rw [at_get hlt, at_get (show k < b.length by omega)]
      exact ⟨fun e => ⟨hlt, by rw [e]⟩, fun e => UInt8.toNat_inj.1 e.2⟩
    by_cases h : b[k] = b[i]
    · rw [if_pos h, if_pos (e.1 h)]
    · rw [if_neg h, if_neg (fun x => h (e.2 x))]
  · rw [List.drop_eq_nil_of_le hge, if_neg (by omega)]
    cases b.drop k <;> rfl
theorem cpl_le {b : List UInt8} {k : Nat} : ∀ {i : Nat}, k < i → i ≤ b.length → i + cpl (b.drop k) (b.drop i) ≤ b.length := by
  intro i hk hi
  generalize hf : b.length - i = f
  induction f generalizing k i with
  | zero =>
    rw [cpl_step hk, if_neg (by omega)]; omega
  | succ f ih =>
    rw [cpl_step hk]
    split
    · have := ih (k := k + 1) (i := i + 1) (by omega) (by omega) (by omega)
      omega
    · omega
theorem cpl_get {b : List UInt8} {k : Nat} : ∀ {i : Nat}, k < i → ∀ j, j < cpl (b.drop k) (b.drop i) → at_ b (k + j) = at_ b (i + j) := by
  intro i hk j
  induction j generalizing k i with
  | zero =>
    intro h
    rw [cpl_step hk] at h
    split at h
    · rename_i hc; exact hc.2
    · omega
  | succ j ih =>
    intro h
    rw [cpl_step hk] at h
    split at h
    · have := ih (k := k + 1) (i := i + 1) (by omega) (by omega)
      rw [show k + (j + 1) = k + 1 + j by omega, show i + (j + 1) = i + 1 + j by omega]
      exact this
    · omega
theorem cpl_four {b : List UInt8} {k i : Nat} (hk : k < i) (hi : i + 4 ≤ b.length) (h : quad b k = quad b i) : 4 ≤ cpl (b.drop k) (b.drop i) ∧ cpl (b.drop k) (b.drop i) = 4 + cpl (b.drop (k + 4)) (b.drop (i + 4)) := by
  obtain ⟨h0, h1, h2, h3⟩ := quad_eq h
  rw [cpl_step hk, if_pos ⟨by omega, h0⟩, cpl_step (by omega), if_pos ⟨by omega, h1⟩, cpl_step (by omega), if_pos ⟨by omega, h2⟩, cpl_step (by omega), if_pos ⟨by omega, h3⟩]
  simp only [Nat.add_assoc, Nat.reduceAdd]
  omega
/-- the packed bytes of b, from i on; the literals since the last part begin at s -/
def pack (b : List UInt8) : Nat → Nat → Nat → List UInt8
  | 0, _, _ => []
  | f + 1, s, i =>
    if i + 4 ≤ b.length then
      match before b i i with
      | none => pack b f s (i + 1)
      | some k => part ((b.drop s).take (i - s)) (i - k) (cpl (b.drop k) (b.drop i)) ++ pack b f (i + cpl (b.drop k) (b.drop i)) (i + cpl (b.drop k) (b.drop i))
    else lits (b.drop s) 0
def packed (b : List UInt8) : List UInt8 := pack b (b.length + 1) 0 0
/-- never long -/
theorem pack_length (b : List UInt8) : ∀ f s i, s ≤ i → i ≤ b.length → (pack b f s i).length ≤ (b.length - s) + (b.length - s) / 255 + 2
  | 0, _, _, _, _ => by simp [pack]
  | f + 1, s, i, hs, hi => by
    rw [pack]
    split
    · rename_i h4
      have hlast := before_last b i
      generalize before b i i = r at hlast
      match r, hlast with
      | none, _ => exact pack_length b f s (i + 1) (by omega) (by omega)
      | some k, hlast =>
        have hc := cpl_le hlast.1 hi
        have h4' := (cpl_four hlast.1 h4 hlast.2.2.1).1
        dsimp only
        generalize cpl (b.drop k) (b.drop i) = n at *
        have ih := pack_length b f (i + n) (i + n) (Nat.le_refl _) hc
        have hl : ((b.drop s).take (i - s)).length = i - s := by simp; omega
        rw [List.length_append, part_length, hl]
        have e1 := exts_length_le (i - s)
        have e2 : (exts (n - 4)).length ≤ n - 4 := by
          by_cases h : n - 4 < 15
          · rw [exts_small h]; simp
          · rw [exts_great h, ext_length]; omega
        omega
    · rw [lits_length]
      have e1 := exts_length_le (b.drop s).length
      simp only [List.length_drop] at *
      omega
theorem packed_length (b : List UInt8) : (packed b).length ≤ b.length + b.length / 255 + 2 := pack_length b _ 0 0 (Nat.le_refl _) (Nat.zero_le _)
theorem toNat_head {n m : Nat} (hm : m ≤ 15) : (head n m).toNat / 16 = min n 15 ∧ (head n m).toNat % 16 = m := by
  unfold head
  rw [UInt8.toNat_ofNat']
  omega
theorem take_back {b : List UInt8} {k i n : Nat} (hk : k < i) (hin : i + n ≤ b.length) (h : ∀ j, j < n → at_ b (k + j) = at_ b (i + j)) : back (b.take i) (i - k) n = b.take (i + n) := by
  induction n with
  | zero => rfl
  | succ n ih =>
    rw [back_snoc, ih (by omega) (fun j hj => h j (by omega))]
    have hl : (b.take (i + n)).length = i + n := by simp; omega
    rw [hl, show i + n - (i - k) = k + n by omega, getD_take _ _ _ (by omega), at_inj (h n (by omega))]
    rw [← Nat.add_assoc, List.take_succ_eq_append_getElem (show i + n < b.length by omega)]
    simp [List.getD_eq_getElem?_getD, List.getElem?_eq_getElem (show i + n < b.length by omega)]
theorem run_cons (most f : Nat) (h : UInt8) (b1 out : List UInt8) : run most (f + 1) (h :: b1) out =
    match takeCount (h.toNat / 16) b1 with
    | none => ([], 2)
    | some (n, b2) =>
      if most < out.length + n then ([], 5)
      else if b2.length < n then ([], 2)
      else
        match b2.drop n with
        | [] => if h.toNat % 16 = 0 then (out ++ b2.take n, 0) else ([], 2)
        | [_] => ([], 2)
        | x :: y :: b3 =>
          if x.toNat + 256 * y.toNat = 0 ∨ out.length + n < x.toNat + 256 * y.toNat then ([], 2)
          else
            match takeCount (h.toNat % 16) b3 with
            | none => ([], 2)
            | some (n2, b4) =>
              if most < out.length + n + (n2 + 4) then ([], 5)
              else run most f b4 (back (out ++ b2.take n) (x.toNat + 256 * y.toNat) (n2 + 4)) := rfl
/-- THERE AND BACK -/
theorem run_pack (b : List UInt8) (most : Nat) : ∀ f F s i, s ≤ i → i ≤ b.length → b.length - i < f → (pack b f s i).length < F → s ≤ most →
    run most F (pack b f s i) (b.take s) = if b.length ≤ most then (b, 0) else ([], 5)
  | 0, _, _, _, _, _, h, _, _ => by omega
  | f + 1, F, s, i, hs, hi, hf, hF, hm => by
    obtain ⟨F, rfl⟩ : ∃ F', F = F' + 1 := ⟨F - 1, by omega⟩
    have hout : (b.take s).length = s := by simp; omega
    rw [pack] at hF ⊢
    split
    · rename_i h4
      rw [if_pos h4] at hF
      have hlast := before_last b i
      generalize before b i i = r at hlast hF
      match r, hlast with
      | none, _ => exact run_pack b most f (F + 1) s (i + 1) (by omega) (by omega) (by omega) hF hm
      | some k, hlast =>
        have hc := cpl_le hlast.1 hi
        have h4' := (cpl_four hlast.1 h4 hlast.2.2.1).1
        have hg := cpl_get (b := b) hlast.1
        dsimp only at hF ⊢
        generalize cpl (b.drop k) (b.drop i) = n at *
        have hl : ((b.drop s).take (i - s)).length = i - s := by simp; omega
        have hki := hlast.1
        have hkd := hlast.2.1
        rw [List.length_append, part_length] at hF
        have ih := run_pack b most f F (i + n) (i + n) (Nat.le_refl _) hc (by omega) (by omega)
        generalize pack b f (i + n) (i + n) = rest at *
        have e : part ((b.drop s).take (i - s)) (i - k) n ++ rest = head (i - s) (min (n - 4) 15) :: (exts (i - s) ++ ((b.drop s).take (i - s) ++ (UInt8.ofNat (i - k) :: UInt8.ofNat ((i - k) / 256) :: (exts (n - 4) ++ rest)))) := by
          simp [part, lits, hl]
        have hh := toNat_head (n := i - s) (m := min (n - 4) 15) (by omega)
        rw [e, run_cons, hh.1, hh.2, takeCount_exts]
        dsimp only
        rw [hout, show s + (i - s) = i by omega]
        by_cases h1 : most < i
        · rw [if_pos h1, if_neg (by omega)]
        · rw [if_neg h1, if_neg (by simp only [List.length_append, hl]; omega), List.drop_left' hl, List.take_left' hl]
          dsimp only
          have hd : (UInt8.ofNat (i - k)).toNat + 256 * (UInt8.ofNat ((i - k) / 256)).toNat = i - k := by
            rw [UInt8.toNat_ofNat', UInt8.toNat_ofNat']; omega
          rw [hd, if_neg (by omega), takeCount_exts]
          dsimp only
          rw [show n - 4 + 4 = n by omega]
          have hpre : b.take s ++ (b.drop s).take (i - s) = b.take i := by
            rw [← List.take_add, show s + (i - s) = i by omega]
          by_cases h2 : most < i + n
          · rw [if_pos h2, if_neg (by omega)]
          · rw [if_neg h2, hpre, take_back hki hc hg]
            exact ih (by omega)
    · rename_i h4
      have hl : (b.drop s).length = b.length - s := by simp
      have e : lits (b.drop s) 0 = head (b.length - s) 0 :: (exts (b.length - s) ++ b.drop s) := by simp [lits]
      have hh := toNat_head (n := b.length - s) (m := 0) (by omega)
      rw [e, run_cons, hh.1, hh.2, takeCount_exts]
      dsimp only
      rw [hout, show s + (b.length - s) = b.length by omega]
      by_cases h1 : most < b.length
      · rw [if_pos h1, if_neg (by omega)]
      · rw [if_neg h1, if_neg (by rw [hl]; omega), List.drop_of_length_le (by rw [hl]; exact Nat.le_refl _)]
        dsimp only
        have ht : (b.drop s).take (b.length - s) = b.drop s := List.take_of_length_le (by rw [hl]; exact Nat.le_refl _)
        rw [if_pos rfl, if_pos (by omega), ht, List.take_append_drop]
theorem unpack_packed (b : List UInt8) (most : Int) : unpack (packed b) most = if most < 0 then ([], 1) else if (b.length : Int) ≤ most then (b, 0) else ([], 5) := by
  unfold unpack
  split
  · rfl
  · have h := run_pack b most.toNat (b.length + 1) ((packed b).length + 1) 0 0 (Nat.le_refl _) (Nat.zero_le _) (by omega) (by unfold packed; omega) (Nat.zero_le _)
    have e : pack b (b.length + 1) 0 0 = packed b := rfl
    rw [e, List.take_zero] at h
    rw [h]
    by_cases hb : (b.length : Int) ≤ most
    · rw [if_pos (by omega), if_pos hb]
    · rw [if_neg (by omega), if_neg hb]
end Go.Proofs.YtoebeibmmclhpaaGreat.Lz

/- lz.quadAt, lz.agreeing, lz.takeDistance, lz.takeCount: they only read. -/
namespace Go.Proofs.YtoebeibmmclhpaaGreat
open Go.RowKit
set_option maxRecDepth 100000
theorem lz_or_add (i a b : Nat) (hb : b < 2 ^ i) : b ||| a * 2 ^ i = b + a * 2 ^ i := by
  rw [Nat.or_comm, Nat.mul_comm, ← Nat.two_pow_add_eq_or_of_lt hb, Nat.add_comm]
theorem lz_u32_or_add (i a b : Nat) (hb : b < 2 ^ i) (h : b + a * 2 ^ i < 4294967296) : bits .or .u32 (b : Int) ((a * 2 ^ i : Nat) : Int) = ((b + a * 2 ^ i : Nat) : Int) := by
  rw [u32_or_nat _ _ (by omega) (by omega), lz_or_add i a b hb]
theorem lz_ors (b0 b1 b2 b3 : Nat) (h0 : b0 < 256) (h1 : b1 < 256) (h2 : b2 < 256) (h3 : b3 < 256) :
    bits .or .u32 (bits .or .u32 (bits .or .u32 (b0 : Int) ((b1 : Int) * 256)) ((b2 : Int) * 65536)) ((b3 : Int) * 16777216) = ((b0 + b1 * 256 + b2 * 65536 + b3 * 16777216 : Nat) : Int) := by
  have e1 := lz_u32_or_add 8 b1 b0 h0 (by omega)
  have e2 := lz_u32_or_add 16 b2 (b0 + b1 * 2 ^ 8) (by omega) (by omega)
  have e3 := lz_u32_or_add 24 b3 (b0 + b1 * 2 ^ 8 + b2 * 2 ^ 16) (by omega) (by omega)
  rw [show (b1 : Int) * 256 = ((b1 * 2 ^ 8 : Nat) : Int) from by omega, e1, show (b2 : Int) * 65536 = ((b2 * 2 ^ 16 : Nat) : Int) from by omega, e2, show (b3 : Int) * 16777216 = ((b3 * 2 ^ 24 : Nat) : Int) from by omega, e3]
theorem ofInt_i64 (a : Nat) (ha : a < 9223372036854775808) : (BitVec.ofInt 64 (a : Int)).toNat = a := by
  rw [BitVec.ofInt_natCast, BitVec.toNat_ofNat]; exact Nat.mod_eq_of_lt (by omega)
theorem i64_or_nat (a b : Nat) (ha : a < 9223372036854775808) (hb : b < 9223372036854775808) : bits .or .i64 (a : Int) (b : Int) = ((a ||| b : Nat) : Int) := by
  have hx : a ||| b < 2 ^ 63 := Nat.or_lt_two_pow (by omega) (by omega)
  show IntKind.i64.wrap ((BitVec.ofInt 64 (a : Int) ||| BitVec.ofInt 64 (b : Int)).toNat : Int) = _
  rw [BitVec.toNat_or, ofInt_i64 a ha, ofInt_i64 b hb]
  have : ∀ z : Int, 0 ≤ z → z < 9223372036854775808 → IntKind.i64.wrap z = z := fun z h1 h2 => by
    simp [IntKind.wrap, IntKind.bits, IntKind.signed]; omega
  exact this _ (by omega) (by omega)
theorem quiet_drawn {P : Program} {f : FuncId} {args : Array Value} {w : World} {n : Nat} {v : Value}
    (h : Calls P f args (w.drewN n) fun e w' => e = .returned v ∧ Drawn (w.drewN n) w') : Calls P f args (w.drewN n) fun e w'' => e = .returned v ∧ ∃ m, w'' = w.drewN m :=
  h.mono fun _ _ ⟨he, q, hm⟩ => ⟨he, n + q, by rw [hm]; exact World.drewN_drewN _ _ _⟩
theorem Bytes.addr {w : World} {B : Nat} {A : Option Addr} {l : List UInt8} (h : Bytes w B A l) {k : Nat} (hk : k < l.length) : ∃ ad, A = some ad := by
  obtain ⟨ad, ha, _⟩ := h.get hk
  exact ⟨ad, ha⟩
/-- a byte's cell -/
theorem Bytes.at_ {w : World} {B : Nat} {ad : Addr} {l : List UInt8} (h : Bytes w B (some ad) l) {k : Nat} (hk : k < l.length) : w.cell? (ad.add k) = some (.int .u8 (Lz.at_ l k : Int)) := by
  obtain ⟨ad', ha, _, hc⟩ := h.get hk
  cases ha
  rw [hc, Lz.at_get hk]
theorem run_index_at (ad : Addr) (n c i : Nat) (hi : i < n) (u : World) : (Instr.indexAt 22 (.slice (some ad) n c) (.int .i64 (i : Int))).run Tryz.prog u = .ok (.pointer (some (ad.add i))) u := by
  obtain ⟨i0, hi0, hz0, hz1, hz2⟩ := info_parts byte_info
  have he : Tryz.prog.elem 22 = 5 := by kernel_rfl
  rw [run_indexAt_slice _ _ _ _ _ _ _ Tryz.underlying22, if_pos ⟨by omega, by omega⟩, he]
  simp [sizeOf, typeInfo, hi0, hz1]
set_option maxHeartbeats 1000000 in
theorem quadAt_any (A : Option Addr) (n cap B i : Nat) (l : List UInt8) (w : World) (hl : l.length = n) (hn : i + 4 ≤ n) (hm : n ≤ 281474976710656) (hb : Bytes w B A l) :
    Calls Tryz.prog 99 #[.slice A n cap, .int .i64 (i : Int)] w fun e w' => e = .returned (.int .u32 ((Lz.quad l i : Nat) : Int)) ∧ Drawn w w' := by
  obtain ⟨ad, rfl⟩ := hb.addr (k := i) (by omega)
  have c0 := hb.at_ (k := i) (by omega)
  have c1 := hb.at_ (k := i + 1) (by omega)
  have c2 := hb.at_ (k := i + 2) (by omega)
  have c3 := hb.at_ (k := i + 3) (by omega)
  have h0 := Lz.at_lt l i
  have h1 := Lz.at_lt l (i + 1)
  have h2 := Lz.at_lt l (i + 2)
  have h3 := Lz.at_lt l (i + 3)
  have hw0 : Lz.quad l i = Lz.at_ l i + 256 * Lz.at_ l (i + 1) + 65536 * Lz.at_ l (i + 2) + 16777216 * Lz.at_ l (i + 3) := rfl
  have hw := Lib.hid hw0; clear hw0
  have x0 := run_index_at ad n cap i (by omega)
  have x1 := run_index_at ad n cap (i + 1) (by omega)
  have x2 := run_index_at ad n cap (i + 2) (by omega)
  have x3 := run_index_at ad n cap (i + 3) (by omega)
  rw [show ((i + 1 : Nat) : Int) = (i : Int) + 1 from by omega] at x1
  rw [show ((i + 2 : Nat) : Int) = (i : Int) + 2 from by omega] at x2
  rw [show ((i + 3 : Nat) : Int) = (i : Int) + 3 from by omega] at x3
  generalize Lz.at_ l i = b0 at *
  generalize Lz.at_ l (i + 1) = b1 at *
  generalize Lz.at_ l (i + 2) = b2 at *
  generalize Lz.at_ l (i + 3) = b3 at *
  clear hb
  generalize ad.add i = p0 at *
  generalize ad.add (i + 1) = p1 at *
  generalize ad.add (i + 2) = p2 at *
  generalize ad.add (i + 3) = p3 at *
  have hi0 : (0 : Int) ≤ (i : Int) := by omega
  have hi1 : (i : Int) + 3 < (n : Int) := by omega
  clear hl
  go_enter Tryz.func99, Tryz.ntmps99
  go_wp2_with fail
  go_quiet (fail)
  go_wp2
  go_ret
  refine ⟨?_, _, rfl⟩
  rw [hw.out]
  refine congrArg (fun x => Ending.returned (.int .u32 x)) ((lz_ors b0 b1 b2 b3 h0 h1 h2 h3).trans (by omega))
set_option maxHeartbeats 1000000 in
theorem agreeing_any (A : Option Addr) (n cap B k i : Nat) (l : List UInt8) (w : World) (hl : l.length = n) (hk : k < i) (hi : i ≤ n) (hm : n ≤ 281474976710656) (hb : Bytes w B A l) :
    Calls Tryz.prog 70 #[.slice A n cap, .int .i64 (k : Int), .int .i64 (i : Int)] w fun e w' => e = .returned (.int .i64 ((Lz.cpl (l.drop k) (l.drop i) : Nat) : Int)) ∧ Drawn w w' := by
  have hle := Lz.cpl_le (b := l) hk (by omega)
  have Hl := Lib.hid hl
  generalize hN : Lz.cpl (l.drop k) (l.drop i) = N at *
  have HN := Lib.hid hN; clear hN
  rw [hl] at hle
  clear hl
  go_enter Tryz.func70, Tryz.ntmps70
  go_wp2
  go_loopw [7] (fun s wr => ∃ (j : Nat), j ≤ N ∧ s = .int .i64 j ∧ j + Lz.cpl (l.drop (k + j)) (l.drop (i + j)) = N ∧ Bytes wr B A l ∧ Drawn w wr) (fun s _ => N - (intOf s).toNat)
  case atStart => exact ⟨0, Nat.zero_le _, rfl, by rw [Nat.zero_add]; exact HN.out, hb, Drawn.refl _⟩
  case round =>
    clear hb HN
    obtain ⟨j, hj, rfl, hc, hb, hd⟩ := hrel
    have hs := Lz.cpl_step (b := l) (k := k + j) (i := i + j) (by omega)
    by_cases h1 : i + j < n
    · have h1' : i + j < l.length := by have := Hl.out; omega
      have d1 : decide ((i : Int) + (j : Int) < (n : Int)) = true := decide_eq_true (by omega)
      have h1'' : (i : Int) + (j : Int) < (n : Int) := by omega
      obtain ⟨ad, rfl⟩ := hb.addr (k := i + j) h1'
      have c0 := hb.at_ (k := k + j) (by omega)
      have c1 := hb.at_ (k := i + j) h1'
      have x0 := run_index_at ad n cap (k + j) (by omega)
      have x1 := run_index_at ad n cap (i + j) (by omega)
      rw [Int.natCast_add] at x0 x1
      have Hc := Lib.hid hc; clear hc
      have HB := Lib.hid hb; clear hb
      by_cases h2 : Lz.at_ l (k + j) = Lz.at_ l (i + j)
      · rw [if_pos ⟨h1', h2⟩] at hs
        have Hs := Lib.hid hs; clear hs
        have hjN : j + 1 ≤ N := by have := Hc.out; rw [Hs.out] at this; omega
        rw [h2] at c0
        generalize Lz.at_ l (i + j) = z at *
        generalize ad.add (k + j) = p0 at *
        generalize ad.add (i + j) = p1 at *
        have d2 : ((z : Int) == (z : Int)) = true := by simp
        clear h2 h1'
        go_wp2_with fail
        go_quiet (fail)
        go_wp2
        go_roundw
        case rel => exact ⟨j + 1, hjN, by go_num, by rw [← Hc.out, Hs.out]; simp only [Nat.add_assoc]; omega, HB.out, hd.drewN _⟩
        case measure => simp [intOf]; omega
      · rw [if_neg (fun e => h2 e.2)] at hs
        have d2 : (((Lz.at_ l (k + j) : Nat) : Int) == ((Lz.at_ l (i + j) : Nat) : Int)) = false := by simp; omega
        have hjN : j = N := by have := Hc.out; rw [hs] at this; omega
        generalize Lz.at_ l (k + j) = z0 at *
        generalize Lz.at_ l (i + j) = z at *
        generalize ad.add (k + j) = p0 at *
        generalize ad.add (i + j) = p1 at *
        clear h2 h1' hs Hc
        have HjN := Lib.hid hjN; clear hjN
        go_wp2_with fail
        go_quiet (fail)
        go_wp2
        go_ret
        exact ⟨congrArg (fun x : Nat => Ending.returned (.int .i64 (x : Int))) HjN.out, hd.drewN _⟩
    · rw [if_neg (by have := Hl.out; omega)] at hs
      have hjN : j = N := by rw [hs] at hc; omega
      have HjN := Lib.hid hjN
      have d1 : decide ((i : Int) + (j : Int) < (n : Int)) = false := decide_eq_false (by omega)
      have h1'' : ¬ ((i : Int) + (j : Int) < (n : Int)) := by omega
      clear hjN hs hc hb
      go_wp2_with fail
      go_quiet (fail)
      go_wp2
      go_ret
      exact ⟨congrArg (fun x : Nat => Ending.returned (.int .i64 (x : Int))) HjN.out, hd.drewN _⟩
/-- what takeCount answers -/
def CountPost (w : World) (B : Nat) (r : Option (Nat × List UInt8)) (e : Ending) (w' : World) : Prop :=
  (match r with
    | none => e = .returned (.tuple #[.int .i64 0, .slice none 0 0, .bool false])
    | some (c, t) => ∃ A cap, e = .returned (.tuple #[.int .i64 (c : Int), .slice A t.length cap, .bool true]) ∧ Bytes w' B A t ∧ t.length ≤ cap) ∧ Drawn w w'
theorem bytes_drawn {w w' : World} {B : Nat} {A : Option Addr} {l : List UInt8} (h : Bytes w B A l) (hd : Drawn w w') : Bytes w' B A l := h.below (hd.below B)
set_option maxHeartbeats 1000000 in
theorem takeCount_any (A : Option Addr) (n cap B h : Nat) (l : List UInt8) (w : World) (hl : l.length = n) (hcap : n ≤ cap) (hh : h ≤ 15) (hm : n ≤ 281474976710656) (hb : Bytes w B A l) :
    Calls Tryz.prog 88 #[.slice A n cap, .int .i64 (h : Int)] w (CountPost w B (Lz.takeCount h l)) := by
  by_cases h15 : h < 15
  · have e : Lz.takeCount h l = some (h, l) := by unfold Lz.takeCount; rw [if_pos h15]
    rw [e]
    have h15' : (h : Int) < 15 := by omega
    have Hl := Lib.hid hl; clear hl
    clear e h15
    go_enter Tryz.func88, Tryz.ntmps88
    go_wp2
    go_ret3
    refine ⟨⟨A, cap, ?_, hb, by rw [Hl.out]; exact hcap⟩, Drawn.refl _⟩
    rw [Hl.out]
    rfl
  · have e : Lz.takeCount h l = Lz.takeExt 15 l := by unfold Lz.takeCount; rw [if_neg h15]
    rw [e]
    obtain rfl : h = 15 := by omega
    generalize hR : Lz.takeExt 15 l = R
    have HR := Lib.hid hR
    have Hl := Lib.hid hl
    clear hR hl e h15 hh
    go_enter Tryz.func88, Tryz.ntmps88
    go_wp2
    go_loopw [4, 15] (fun c i wr => ∃ (j : Nat), j ≤ n ∧ i = .int .i64 j ∧ c = .int .i64 (15 + 255 * (j : Int)) ∧ Lz.takeExt (15 + 255 * j) (l.drop j) = R ∧ w = wr) (fun _ i _ => n - (intOf i).toNat)
    case atStart => exact ⟨0, Nat.zero_le _, rfl, rfl, HR.out, rfl⟩
    case round =>
      clear HR
      obtain ⟨j, hj, rfl, rfl, hR, rfl⟩ := hrel
      have HR := Lib.hid hR; clear hR
      by_cases hlt : j < n
      · have hjl : j < l.length := by have := Hl.out; omega
        obtain ⟨ad, rfl⟩ := hb.addr hjl
        have hcell := hb.at_ hjl
        have hx := Lz.at_lt l j
        have hstep : Lz.takeExt (15 + 255 * j) (l.drop j) = if Lz.at_ l j = 255 then Lz.takeExt (15 + 255 * (j + 1)) (l.drop (j + 1)) else some (15 + 255 * j + Lz.at_ l j, l.drop (j + 1)) := by
          rw [List.drop_eq_getElem_cons hjl, Lz.takeExt, Lz.at_get hjl, show 15 + 255 * j + 255 = 15 + 255 * (j + 1) from by omega]
        rw [HR.out] at hstep
        have Hst := Lib.hid hstep
        clear hstep
        have hlt' : (j : Int) < (n : Int) := by omega
        have hj0 : (0 : Int) ≤ (j : Int) := by omega
        have hidx := run_index_at ad n cap j hlt
        have hcut := hb.cut (k := j + 1) (cap := cap) (by omega) (by have := Hl.out; omega)
        have hrun := run_cut_l (some ad) n cap (j + 1) (by omega)
        rw [show ((j + 1 : Nat) : Int) = (j : Int) + 1 from by omega] at hrun
        have HB := Lib.hid hb; clear hb
        have HC := Lib.hid hcut; clear hcut
        generalize Lz.at_ l j = x at *
        generalize ad.add j = p at *
        generalize cutAt (some ad) cap (j + 1) = A' at *
        by_cases h255 : x = 255
        · have h3 := Hst.out
          rw [if_pos h255] at h3
          replace h3 := Lib.hid h3
          subst h255
          clear Hst HC hrun
          go_wp2
          go_roundw
          case rel => exact ⟨j + 1, by omega, by go_num, congrArg (Value.int .i64) (by omega), h3.out.symm, trivial⟩
          case measure => simp [intOf]; omega
        · have h3 := Hst.out
          rw [if_neg h255] at h3
          have h255' : ¬ ((x : Int) = 255) := by omega
          replace h3 := Lib.hid h3
          clear Hst h255
          go_wp2_with fail
          go_quiet (fail)
          go_wp2
          go_ret3
          rw [h3.out]
          refine ⟨⟨A', cap - (j + 1), ?_, bytes_drawn HC.out ⟨_, rfl⟩, by rw [List.length_drop, Hl.out]; omega⟩, ⟨_, rfl⟩⟩
          rw [List.length_drop, Hl.out]
          go_num
      · obtain rfl : j = n := by omega
        have h3 : R = none := by rw [← HR.out, List.drop_of_length_le (by rw [Hl.out]; exact Nat.le_refl _)]; rfl
        replace h3 := Lib.hid h3
        go_wp2
        go_ret3
        rw [h3.out]
        exact ⟨rfl, Drawn.refl _⟩
/-- what takeDistance answers -/
def DistPost (w : World) (B : Nat) (l : List UInt8) (e : Ending) (w' : World) : Prop :=
  (if l.length < 2 then e = .returned (.tuple #[.int .i64 0, .slice none 0 0, .bool false])
    else ∃ A cap, e = .returned (.tuple #[.int .i64 ((Lz.at_ l 0 + 256 * Lz.at_ l 1 : Nat) : Int), .slice A (l.length - 2) cap, .bool (decide (0 < Lz.at_ l 0 + 256 * Lz.at_ l 1))]) ∧ Bytes w' B A (l.drop 2) ∧ l.length - 2 ≤ cap) ∧ Drawn w w'
set_option maxHeartbeats 1000000 in
theorem takeDistance_any (A : Option Addr) (n cap B : Nat) (l : List UInt8) (w : World) (hl : l.length = n) (hcap : n ≤ cap) (hm : n ≤ 281474976710656) (hb : Bytes w B A l) :
    Calls Tryz.prog 89 #[.slice A n cap] w (DistPost w B l) := by
  unfold DistPost
  by_cases h2 : n < 2
  · simp only [hl, if_pos h2]
    have h2' : (n : Int) < 2 := by omega
    go_enter Tryz.func89, Tryz.ntmps89
    go_wp2
    go_ret3
    exact ⟨rfl, Drawn.refl _⟩
  · simp only [hl, if_neg h2]
    obtain ⟨ad, rfl⟩ := hb.addr (k := 0) (by omega)
    have c0 := hb.at_ (k := 0) (by omega)
    have c1 := hb.at_ (k := 1) (by omega)
    have x0 := run_index_at ad n cap 0 (by omega)
    have x1 := run_index_at ad n cap 1 (by omega)
    rw [Int.natCast_zero] at x0
    rw [Int.natCast_one] at x1
    have h0 := Lz.at_lt l 0
    have h1 := Lz.at_lt l 1
    have hcut := hb.cut (k := 2) (cap := cap) (by omega) (by omega)
    have hrun := run_cut_l (some ad) n cap 2 (by omega)
    rw [show ((2 : Nat) : Int) = (2 : Int) from rfl] at hrun
    have hor : bits .or .i64 ((Lz.at_ l 0 : Nat) : Int) (((Lz.at_ l 1 : Nat) : Int) * 256) = ((Lz.at_ l 0 + 256 * Lz.at_ l 1 : Nat) : Int) := by
      rw [show ((Lz.at_ l 1 : Nat) : Int) * 256 = ((Lz.at_ l 1 * 2 ^ 8 : Nat) : Int) from by omega, i64_or_nat _ _ (by omega) (by omega), lz_or_add 8 _ _ h0]
      omega
    have h2' : ¬ ((n : Int) < 2) := by omega
    have HC := Lib.hid hcut; clear hcut
    generalize hD : Lz.at_ l 0 + 256 * Lz.at_ l 1 = D at *
    generalize Lz.at_ l 0 = z0 at *
    generalize Lz.at_ l 1 = z1 at *
    generalize ad.add 0 = p0 at *
    generalize ad.add 1 = p1 at *
    generalize cutAt (some ad) cap 2 = A' at *
    have hD2 : D < 65536 := by omega
    clear hb hl h2 hD
    have hd : decide ((0 : Int) < (D : Int)) = decide (0 < D) := by by_cases h : 0 < D <;> simp [h] <;> omega
    have Hd := Lib.hid hd; clear hd
    go_enter Tryz.func89, Tryz.ntmps89
    go_wp2_with fail
    go_quiet (fail)
    go_wp2_with fail
    go_quiet (fail)
    go_wp2
    go_ret3
    refine ⟨⟨A', cap - 2, ?_, bytes_drawn HC.out ⟨_, World.drewN_drewN _ _ _⟩, by omega⟩, ⟨_, World.drewN_drewN _ _ _⟩⟩
    rw [← Hd.out]
    go_num
end Go.Proofs.YtoebeibmmclhpaaGreat

/- lz.history: find and add: the last places of four bytes, in a map. -/
namespace Go.Proofs.YtoebeibmmclhpaaGreat
open Go.RowKit Go.Maps
set_option maxRecDepth 100000
theorem keyLaw : Keyed Tryz.prog 123 := int_keyed Tryz.underlying123
theorem zeroInt (w : World) : (zeroValue 3).run Tryz.prog w = .ok (.int .i64 0) w := by kernel_rfl
theorem key_wf {q : Nat} (h : q < 4294967296) : (Lit.int .u32 (q : Int)).wf = true := WalkArith.wf_u32 (by omega)
theorem keyIs {q : Nat} (h : q < 4294967296) : keyOf Tryz.prog 123 (.int .u32 (q : Int)) = some (.int .u32 (q : Int)) := keyOf_int_mk Tryz.underlying123 (key_wf h)
/-- what a datum says of the four bytes q -/
def Says (D : DataW Unit) (q : Nat) : Option Nat → Prop
  | none => Maps.has D (.int .u32 (q : Int)) = false
  | some p => Maps.has D (.int .u32 (q : Int)) = true ∧ D.atKey (.int .u32 (q : Int)) (.lit (.int .i64 0)) = .lit (.int .i64 (p : Int))
/-- block M is a map that knows the last places ahead of i -/
def Hist (w : World) (M : Nat) (b : List UInt8) (i : Nat) : Prop :=
  ∃ (D : DataW Unit) (k : Nat), k ≤ i ∧ w.ownsMap Tryz.prog 123 (plainElem Tryz.prog 3) M k D ∧ ∀ q, q < 4294967296 → ∃ r, Lz.IsLast b i q r ∧ Says D q r
theorem Hist.drawn {w w' : World} {M : Nat} {b : List UInt8} {i : Nat} (h : Hist w M b i) (hd : Drawn w w') : Hist w' M b i := by
  obtain ⟨q, rfl⟩ := hd
  exact h
theorem Hist.lt {w : World} {M : Nat} {b : List UInt8} {i : Nat} (h : Hist w M b i) : M < w.heap.size := by
  obtain ⟨D, k, _, h, _⟩ := h
  exact h.lt
theorem Hist.kept {w w' : World} {M : Nat} {b : List UInt8} {i : Nat} {row : Option Nat} (h : Hist w M b i) (hg : w.grownBy w' row) (hne : some M ≠ row) : Hist w' M b i := by
  obtain ⟨D, k, hk, h, r⟩ := h
  exact ⟨D, k, hk, h.kept hg hne, r⟩
/-- what find answers -/
def foundVal : Option Nat → Value
  | none => .tuple #[.int .i64 0, .bool false]
  | some k => .tuple #[.int .i64 (k : Int), .bool true]
set_option maxHeartbeats 1000000 in
theorem find_any (A : Option Addr) (n cap B M i : Nat) (l : List UInt8) (w : World) (hl : l.length = n) (hn : i + 4 ≤ n) (hm : n ≤ 281474976710656) (hb : Bytes w B A l) (hB : B ≤ w.heap.size) (hh : Hist w M l i) :
    Calls Tryz.prog 68 #[.agg #[.slice A n cap, .map (some M)], .int .i64 (i : Int)] w fun e w' => e = .returned (foundVal (Lz.before l i i)) ∧ Below w.heap.size w w' := by
  have hq := Lz.quad_lt l i
  obtain ⟨D, k, hk, hown, hall⟩ := hh
  obtain ⟨r, hr, hs⟩ := hall _ hq
  obtain rfl : r = Lz.before l i i := Lz.IsLast.unique hr (Lz.before_last l i)
  have hval : ∃ c f, foundVal (Lz.before l i i) = .tuple #[.int .i64 c, .bool f] ∧ Maps.has D (.int .u32 (Lz.quad l i : Int)) = f ∧ D.atKey (.int .u32 (Lz.quad l i : Int)) (.lit (.int .i64 0)) = .lit (.int .i64 c) := by
    generalize Lz.before l i i = r at hs
    match r, hs with
    | none, hs => exact ⟨0, false, rfl, hs, atKey_of_not_has hs _⟩
    | some p, hs => exact ⟨p, true, rfl, hs.1, hs.2⟩
  obtain ⟨c, f, hv, hf, hc⟩ := hval
  rw [hv]
  have H1 := fun w' hb' => quadAt_any A n cap B i l w' hl hn hm hb'
  generalize Lz.quad l i = q at *
  clear hr hs hall hv
  have hown1 := hown.alloc (.cells #[.slice A n cap, .map (some M)] 91)
  have hbel : Below w.heap.size w (w.alloc (.cells #[.slice A n cap, .map (some M)] 91)) := (Below.refl _ _).alloc (Nat.le_refl _) _
  have hb1 := hb.below (hbel.mono hB)
  have c0 : (w.alloc (.cells #[.slice A n cap, .map (some M)] 91)).cell? ⟨w.heap.size, 0, none⟩ = some (.slice A n cap) := by rw [World.cell?_alloc_at _ _ _ _ rfl]; rfl
  have c1 : (w.alloc (.cells #[.slice A n cap, .map (some M)] 91)).cell? ⟨w.heap.size, 1, none⟩ = some (.map (some M)) := by rw [World.cell?_alloc_at _ _ _ _ rfl]; rfl
  have hrun : ∀ m, (Instr.lookup 89 (.map (some M)) (.int .u32 (q : Int)) true).run Tryz.prog ((w.alloc (.cells #[.slice A n cap, .map (some M)] 91)).drewN m) = .ok (.tuple #[.int .i64 c, .bool f]) ((w.alloc (.cells #[.slice A n cap, .map (some M)] 91)).drewN m) := fun m => by
    have hownm : ((w.alloc (.cells #[.slice A n cap, .map (some M)] 91)).drewN m).ownsMap Tryz.prog 123 (plainElem Tryz.prog 3) M k D := hown1
    obtain ⟨v, ps, h1, h2⟩ := hownm.look_ok keyLaw Tryz.underlying89 (zeroInt _) (plainElem_int (H := Unit) Tryz.underlying3 (by decide)) (keyIs hq)
    obtain ⟨a, rfl, h3, _⟩ := plainElem_int_inv Tryz.underlying3 h2
    have h4 := congrArg Prod.fst h3
    simp only [hc] at h4
    injection h4 with h4
    injection h4 with _ h4
    rw [h1, hf, h4]
  have H2 := fun m => H1 ((w.alloc (.cells #[.slice A n cap, .map (some M)] 91)).drewN m) (hb1.drewN m)
  have h0m : M ≠ w.heap.size := by have := hown.lt; omega
  clear hown1 hown hb1 hb H1 hf hc hl
  go_enter Tryz.func68, Tryz.ntmps68
  go_wp2_with fail
  generalize w.alloc (.cells #[.slice A n cap, .map (some M)] 91) = wb at *
  replace H2 := Lib.hid H2
  go_quiet ((go_at_call 99; exact quiet_drawn (H2.out _)))
  go_wp2
  go_ret2
  exact ⟨rfl, hbel.trans ((Drawn.drewN (Drawn.refl _) _).below _)⟩
end Go.Proofs.YtoebeibmmclhpaaGreat

/- lz.history.add -/
namespace Go.Proofs.YtoebeibmmclhpaaGreat
open Go.RowKit Go.Maps
set_option maxRecDepth 100000
theorem cell_drawn {w w' : World} (hd : Drawn w.drew w') {p : Addr} {v : Value} (h : w.cell? p = some v) : w'.cell? p = some v := by
  obtain ⟨q, rfl⟩ := hd
  exact h
theorem grown_drawn {w w' : World} (hd : Drawn w w') (row : Option Nat) : w.grownBy w' row := by
  obtain ⟨q, rfl⟩ := hd
  exact ⟨rfl, rfl, rfl, Nat.le_refl _, fun _ _ _ => rfl⟩
theorem cell_grown {w w' : World} {row : Option Nat} (hg : w.grownBy w' row) (p : Addr) (hp : p.block < w.heap.size) (hne : some p.block ≠ row) : w'.cell? p = w.cell? p := by
  unfold World.cell?
  rw [hg.block _ hp hne]
/-- all but the place's own four bytes are told as at the next place -/
def Mid (l : List UInt8) (i : Nat) (D : DataW Unit) : Prop := ∀ q, q < 4294967296 → q ≠ Lz.quad l i → ∃ r, Lz.IsLast l (i + 1) q r ∧ Says D q r
theorem ne_key {q q' : Nat} (h : q ≠ q') : (Lit.int .u32 (q : Int)) ≠ (Lit.int .u32 (q' : Int)) := fun e => by
  injection e with _ e
  exact h (by omega)
theorem mid_near {l : List UInt8} {i : Nat} {D : DataW Unit} (h : ∀ q, q < 4294967296 → ∃ r, Lz.IsLast l i q r ∧ Says D q r) (hi : i < 65535) : Mid l i D := fun q hq hne => by
  obtain ⟨r, hr, hs⟩ := h q hq
  exact ⟨r, hr.next (Ne.symm hne) (.inr hi), hs⟩
theorem old_is {l : List UInt8} {i : Nat} {D : DataW Unit} (h : ∀ q, q < 4294967296 → ∃ r, Lz.IsLast l i q r ∧ Says D q r) (hi : 65535 ≤ i) :
    ∃ p, Lz.IsLast l i (Lz.quad l (i - 65535)) (some p) ∧ Says D (Lz.quad l (i - 65535)) (some p) := by
  obtain ⟨r, hr, hs⟩ := h _ (Lz.quad_lt l (i - 65535))
  match r, hr, hs with
  | none, hr, _ => exact absurd rfl (hr (i - 65535) (by omega) (by omega))
  | some p, hr, hs => exact ⟨p, hr, hs⟩
theorem mid_keep {l : List UInt8} {i p : Nat} {D : DataW Unit} (h : ∀ q, q < 4294967296 → ∃ r, Lz.IsLast l i q r ∧ Says D q r) (hp : Lz.IsLast l i (Lz.quad l (i - 65535)) (some p)) (hne : p ≠ i - 65535) : Mid l i D := fun q hq hn => by
  obtain ⟨r, hr, hs⟩ := h q hq
  refine ⟨r, hr.next (Ne.symm hn) (.inl fun e => ?_), hs⟩
  subst e
  have e2 := hr.2.2.1
  rw [e2] at hp
  have := Lz.IsLast.unique hr hp
  injection this with this
  exact hne this.symm
theorem mid_drop {l : List UInt8} {i : Nat} {D : DataW Unit} (h : ∀ q, q < 4294967296 → ∃ r, Lz.IsLast l i q r ∧ Says D q r) (hi : 65535 ≤ i) (hp : Lz.IsLast l i (Lz.quad l (i - 65535)) (some (i - 65535))) :
    Mid l i (D.del (.int .u32 (Lz.quad l (i - 65535) : Int))) := fun q hq hn => by
  by_cases e : q = Lz.quad l (i - 65535)
  · subst e
    exact ⟨none, hp.next_far hi (Ne.symm hn), has_del_same⟩
  · obtain ⟨r, hr, hs⟩ := h q hq
    refine ⟨r, hr.next (Ne.symm hn) (.inl fun e2 => ?_), ?_⟩
    · subst e2
      exact e hr.2.2.1.symm
    · match r, hs with
      | none, hs => exact (has_del_other (ne_key e)).trans hs
      | some p, hs => exact ⟨(has_del_other (ne_key e)).trans hs.1, (atKey_del_other (ne_key e) _).trans hs.2⟩
theorem hist_put {l : List UInt8} {i : Nat} {D : DataW Unit} {w : World} {M k : Nat} (h : Mid l i D) (ho : w.ownsMap Tryz.prog 123 (plainElem Tryz.prog 3) M (k + 1) (D.put (.int .u32 (Lz.quad l i : Int)) (.lit (.int .i64 (i : Int)))) ∧ IsMap D) (hk : k ≤ i) : Hist w M l (i + 1) := by
  obtain ⟨ho, hD⟩ := ho
  refine ⟨_, k + 1, by omega, ho, fun q hq => ?_⟩
  by_cases e : q = Lz.quad l i
  · subst e
    exact ⟨some i, Lz.IsLast.here l i, has_put_same hD (by simp [WideAt.IsKeyLit]) _, atKey_put_same hD (by simp [WideAt.IsKeyLit]) _ _⟩
  · obtain ⟨r, hr, hs⟩ := h q hq e
    refine ⟨r, hr, ?_⟩
    match r, hs with
    | none, hs => exact (has_put_other (ne_key e) _).trans hs
    | some p, hs => exact ⟨(has_put_other (ne_key e) _).trans hs.1, (atKey_put_other (ne_key e) _ _).trans hs.2⟩
theorem put_run {w w8 : World} {M k q p : Nat} {z : Int} {D : DataW Unit} (hz : z = (p : Int)) (h : w.ownsMap Tryz.prog 123 (plainElem Tryz.prog 3) M k D) (hk : k < maxLen) (hp : p ≤ 9223372036854775807) (hq : q < 4294967296) (hd : Drawn w.drew w8) :
    ∃ w9, (Instr.mapUpdate 89 (.map (some M)) (.int .u32 (q : Int)) (.int .i64 z)).run Tryz.prog w8 = .ok () w9 ∧ (w9.ownsMap Tryz.prog 123 (plainElem Tryz.prog 3) M (k + 1) (D.put (.int .u32 (q : Int)) (.lit (.int .i64 (p : Int)))) ∧ IsMap D) ∧ w8.grownBy w9 (some M) := by
  subst hz
  have hD := h.isMap
  have h8 : w8.ownsMap Tryz.prog 123 (plainElem Tryz.prog 3) M k D := by
    obtain ⟨n, rfl⟩ := hd
    exact h
  obtain ⟨w9, h1, h2, h3⟩ := h8.update keyLaw Tryz.underlying89 hk (keyIs hq) (plainElem_int (H := Unit) (a := (p : Int)) Tryz.underlying3 (WalkArith.wf_i64 ⟨by omega, by omega⟩))
  exact ⟨w9, h1, ⟨h2, hD⟩, h3⟩
set_option maxHeartbeats 1000000 in
theorem add_any (A : Option Addr) (n cap B M i : Nat) (l : List UInt8) (w : World) (hl : l.length = n) (hm : n ≤ 281474976710656) (hi : i ≤ n) (hb : Bytes w B A l) (hB : B ≤ w.heap.size) (hBM : B ≤ M) (hh : i + 4 ≤ n → Hist w M l i) :
    Calls Tryz.prog 69 #[.agg #[.slice A n cap, .map (some M)], .int .i64 (i : Int)] w fun e w' => e = .returned (.tuple #[]) ∧ (i + 4 ≤ n → Hist w' M l (i + 1)) ∧ w.grownBy w' (some M) := by
  have hg0 : w.grownBy (w.alloc (.cells #[.slice A n cap, .map (some M)] 91)) (some M) := World.grownBy_alloc _ _ _
  have hbel : Below w.heap.size w (w.alloc (.cells #[.slice A n cap, .map (some M)] 91)) := (Below.refl _ _).alloc (Nat.le_refl _) _
  have hb1 := hb.below (hbel.mono hB)
  have c0 : (w.alloc (.cells #[.slice A n cap, .map (some M)] 91)).cell? ⟨w.heap.size, 0, none⟩ = some (.slice A n cap) := by rw [World.cell?_alloc_at _ _ _ _ rfl]; rfl
  have c1 : (w.alloc (.cells #[.slice A n cap, .map (some M)] 91)).cell? ⟨w.heap.size, 1, none⟩ = some (.map (some M)) := by rw [World.cell?_alloc_at _ _ _ _ rfl]; rfl
  obtain ⟨z, hz, hz0, hz1⟩ : ∃ z : Int, z = (i : Int) ∧ 0 ≤ z ∧ z ≤ 281474976710656 := ⟨i, rfl, by omega, by omega⟩
  rw [← hz]
  by_cases h4 : i + 4 ≤ n
  · have hh := hh h4
    have hlt := hh.lt
    obtain ⟨D, k, hki, hown, hall⟩ := hh
    have hown1 := hown.alloc (.cells #[.slice A n cap, .map (some M)] 91)
    have HQ := fun w' hb' => quadAt_any A n cap B i l w' hl h4 hm hb'
    rw [← hz] at HQ
    replace HQ := Lib.hid HQ
    have HQ2 := Lib.hid fun j hj w' hb' => quadAt_any A n cap B j l w' hl hj hm hb'
    have hQ := Lib.hid (Lz.quad_lt l i)
    have hkb := Lib.hid (show k < maxLen from by unfold maxLen; omega)
    have hi63 := Lib.hid (show i ≤ 9223372036854775807 from by omega)
    have h4' : ¬ ((n : Int) < z + 4) := by omega
    have hgM : some w.heap.size ≠ some M := by simp; omega
    by_cases h65 : i < 65535
    · have HMID := Lib.hid (mid_near hall h65)
      have h65' : z < 65535 := by omega
      have HZ := Lib.hid hz
      clear hall hown hb hbel hl hh h4 HQ2 h65 hz hi
      go_enter Tryz.func69, Tryz.ntmps69
      go_wp2_with fail
      generalize w.alloc (.cells #[.slice A n cap, .map (some M)] 91) = wb at *
      obtain ⟨Q, hQe⟩ : ∃ Q, Q = Lz.quad l i := ⟨_, rfl⟩
      rw [← hQe] at HQ hQ
      have HQe := Lib.hid hQe; clear hQe
      generalize hgg : w.heap.size = g at *
      have Hgg := Lib.hid hgg; clear hgg
      go_region_held3 (fun w' => w'.cell? ⟨g, 0, none⟩ = some (.slice A n cap) ∧ w'.cell? ⟨g, 1, none⟩ = some (.map (some M))) (first | exact ⟨c0, c1⟩ | exact ⟨cell_drawn hd8 c0, cell_drawn hd8 c1⟩ | exact ⟨ht9.cell (cell_drawn hd8 c0) hgM, ht9.cell (cell_drawn hd8 c1) hgM⟩) (first | (go_at_call 99; refine (HQ.out _ (by exact hb1)).mono ?_; rintro e w8 ⟨rfl, hd8⟩; obtain ⟨w9, hrun9, ho9, ht9⟩ := put_run HZ.out hown1 (q := Q) (p := i) hkb.out hi63.out hQ.out hd8))
      go_wp2
      go_end0
      exact ⟨rfl, fun _ => hist_put HMID.out (by rw [← HQe.out]; exact ho9) hki, hg0.trans ((grown_drawn (Drawn.trans ⟨1, rfl⟩ hd8) _).trans ht9)⟩
    · obtain ⟨p, hpl, hps⟩ := old_is hall (by omega)
      obtain ⟨j, hj⟩ : ∃ j, j = i - 65535 := ⟨_, rfl⟩
      rw [← hj] at hpl hps
      obtain ⟨zo, hzo⟩ : ∃ zo : Int, zo = (j : Int) := ⟨_, rfl⟩
      have hzz : z - 65535 = zo := by omega
      have hzo0 : (0 : Int) ≤ zo := by omega
      have hzo1 : zo ≤ 281474976710656 := by omega
      have HK := fun w' hb' => HQ2.out j (by omega) w' hb'
      rw [← hzo] at HK
      replace HK := Lib.hid HK
      have hKlt := Lib.hid (Lz.quad_lt l j)
      have HPS := Lib.hid hps
      obtain ⟨zp, hzp⟩ : ∃ zp : Int, zp = (p : Int) := ⟨_, rfl⟩
      have HZ := Lib.hid hz
      have HZP := Lib.hid hzp
      obtain ⟨Q, hQe⟩ : ∃ Q, Q = Lz.quad l i := ⟨_, rfl⟩
      rw [← hQe] at HQ hQ
      have HQe := Lib.hid hQe; clear hQe
      have hnotneg : ¬ (zo < 0) := by omega
      have hmid : (p ≠ j → Mid l i D) ∧ (p = j → Mid l i (D.del (.int .u32 (Lz.quad l j : Int)))) := by
        rw [hj] at hpl ⊢
        exact ⟨fun h => mid_keep hall hpl h, fun h => mid_drop hall (by omega) (by rw [h] at hpl; exact hpl)⟩
      generalize hKe : Lz.quad l j = K at *
      have HM := Lib.hid hmid
      have hcmp : (p = j → (zp == zo) = true) ∧ (p ≠ j → (zp == zo) = false) := ⟨fun h => by simp; omega, fun h => by simp; omega⟩
      have HC := Lib.hid hcmp
      have h65' : ¬ (z < 65535) := by omega
      clear hall hown hb hbel hl hh h4 HQ2 h65 hz hi hj hpl hps hzo hzp hKe hmid hcmp
      go_enter Tryz.func69, Tryz.ntmps69
      go_wp2_with fail
      generalize w.alloc (.cells #[.slice A n cap, .map (some M)] 91) = wb at *
      generalize hgg : w.heap.size = g at *
      have Hgg := Lib.hid hgg; clear hgg
      refine (HK.out wb hb1).mono ?_
      rintro e w1 ⟨rfl, hd1⟩
      clear HK
      replace c0 := (grown_drawn hd1 none).cell c0 (by simp)
      replace c1 := (grown_drawn hd1 none).cell c1 (by simp)
      replace hb1 := bytes_drawn hb1 hd1
      replace hown1 := hown1.kept (grown_drawn hd1 none) (by simp)
      obtain ⟨cv, hlook, hat, _⟩ := hown1.lookup_int keyLaw Tryz.underlying89 Tryz.underlying3 (zeroInt _) (keyIs hKlt.out)
      have hcv : cv = zp := by
        have h1 := hat.symm.trans HPS.out.2
        injection h1 with h1
        injection h1 with _ h1
        rw [h1, HZP.out]
      subst hcv
      clear hat
      by_cases hpj : p = j
      · have hc := HC.out.1 hpj
        have hce : cv = zo := by simpa using hc
        have HMID2 := Lib.hid (HM.out.2 hpj)
        clear hpj
        have Hce := Lib.hid hce; clear hce
        go_wp2_with (at_delete; refine wpList_delete_own _ rfl _ _ 89 123 rfl 3 keyLaw Tryz.underlying89 _ M k D rfl hown1 _ _ rfl (keyIs hKlt.out) ?_; intro w2 hown2 ht2)
        replace c0 := ht2.grown.cell c0 hgM
        replace c1 := ht2.grown.cell c1 hgM
        have hM1 := hown1.lt
        have hb2 : Bytes w2 B A l := hb1.keep (fun p hp => cell_grown ht2.grown p (by omega) (by simp; omega))
        clear hb1 hown1 hlook hc
        go_region_held3 (fun w' => w'.cell? ⟨g, 0, none⟩ = some (.slice A n cap) ∧ w'.cell? ⟨g, 1, none⟩ = some (.map (some M))) (first | exact ⟨c0, c1⟩ | exact ⟨cell_drawn hd8 c0, cell_drawn hd8 c1⟩ | exact ⟨ht9.cell (cell_drawn hd8 c0) hgM, ht9.cell (cell_drawn hd8 c1) hgM⟩) (first | (go_at_call 99; refine (HQ.out _ (by exact hb2)).mono ?_; rintro e w8 ⟨rfl, hd8⟩; obtain ⟨w9, hrun9, ho9, ht9⟩ := put_run HZ.out hown2 (q := Q) (p := i) hkb.out hi63.out hQ.out hd8))
        go_wp2
        go_end0
        exact ⟨rfl, fun _ => hist_put HMID2.out (by rw [← HQe.out]; exact ho9) hki, ((hg0.trans (grown_drawn hd1 _)).trans ht2.grown).trans ((grown_drawn (Drawn.trans ⟨1, rfl⟩ hd8) _).trans ht9)⟩
      · have hc := HC.out.2 hpj
        have hce : ¬ (cv = zo) := by simpa using hc
        have HMID := Lib.hid (HM.out.1 hpj)
        clear hpj
        go_wp2_with fail
        clear hc hce hlook
        go_region_held3 (fun w' => w'.cell? ⟨g, 0, none⟩ = some (.slice A n cap) ∧ w'.cell? ⟨g, 1, none⟩ = some (.map (some M))) (first | exact ⟨c0, c1⟩ | exact ⟨cell_drawn hd8 c0, cell_drawn hd8 c1⟩ | exact ⟨ht9.cell (cell_drawn hd8 c0) hgM, ht9.cell (cell_drawn hd8 c1) hgM⟩) (first | (go_at_call 99; refine (HQ.out _ (by exact hb1)).mono ?_; rintro e w8 ⟨rfl, hd8⟩; obtain ⟨w9, hrun9, ho9, ht9⟩ := put_run HZ.out hown1 (q := Q) (p := i) hkb.out hi63.out hQ.out hd8))
        go_wp2
        go_end0
        exact ⟨rfl, fun _ => hist_put HMID.out (by rw [← HQe.out]; exact ho9) hki, (hg0.trans (grown_drawn hd1 _)).trans ((grown_drawn (Drawn.trans ⟨1, rfl⟩ hd8) _).trans ht9)⟩
  · have h4' : (n : Int) < z + 4 := by omega
    have H4 := Lib.hid h4
    clear hb1 hb hh hbel hl hz h4 hi
    go_enter Tryz.func69, Tryz.ntmps69
    go_wp2
    refine bodyPost_ret (results_none rfl _ _ _) rfl ?_
    exact ⟨rfl, fun h => absurd h H4.out, hg0⟩
end Go.Proofs.YtoebeibmmclhpaaGreat

/- lz.appendExtension, lz.appendLiterals, lz.appendPart, lz.appendEarlier: they append to a slice of one's own. -/
namespace Go.Proofs.YtoebeibmmclhpaaGreat
open Go.RowKit
set_option maxRecDepth 100000
set_option maxHeartbeats 1000000 in
theorem appendExtension_any (A : Option Addr) (n c base k : Nat) (l : List UInt8) (w : World) (hown : Own w base A n c l) (hbase : base ≤ w.heap.size) (hk : k ≤ 1000000000000000) (hn : n + k / 255 + 1 ≤ 140737488355328) :
    Calls Tryz.prog 100 #[.slice A n c, .int .i64 (k : Int)] w (MadeAt base w (n + (Lz.exts k).length) (l ++ Lz.exts k)) := by
  by_cases h15 : k < 15
  · rw [Lz.exts_small h15, List.append_nil]
    have h15' : (k : Int) < 15 := by omega
    go_enter Tryz.func100, Tryz.ntmps100
    go_wp2
    go_ret
    exact ⟨A, c, rfl, hown, Below.refl _ _⟩
  · rw [Lz.exts_great h15]
    obtain ⟨j0, rfl⟩ : ∃ j, k = j + 15 := ⟨k - 15, by omega⟩
    rw [show j0 + 15 - 15 = j0 from by omega]
    have hlen := Lz.ext_length j0
    generalize hX : l ++ Lz.ext j0 = X
    generalize hN : n + (Lz.ext j0).length = N
    have HX := Lib.hid hX
    have hNb : N ≤ 140737488355328 := by rw [← hN, hlen]; omega
    have HN := Lib.hid hN
    clear hX hN hlen
    rw [show ((j0 + 15 : Nat) : Int) = (j0 : Int) + 15 from by omega]
    have h15' : ¬ ((j0 : Int) + 15 < 15) := by omega
    clear h15 hn
    go_enter Tryz.func100, Tryz.ntmps100
    go_wp2
    go_loopw [0, 5] (fun s r wr => ∃ (j m : Nat) (A' : Option Addr) (c' : Nat) (M : List UInt8), j ≤ j0 ∧ r = .int .i64 j ∧ s = .slice A' m c' ∧ Own wr base A' m c' M ∧ M ++ Lz.ext j = X ∧ m + (Lz.ext j).length = N ∧ base ≤ wr.heap.size ∧ Below base w wr) (fun _ r _ => (intOf r).toNat)
    case atStart => exact ⟨j0, n, A, c, l, Nat.le_refl _, by go_num, rfl, hown, HX.out, HN.out, hbase, Below.refl _ _⟩
    case round =>
      clear HX HN hown
      obtain ⟨j, m, A', c', M, hj, rfl, rfl, ho, hX, hN, hsz, hbel⟩ := hrel
      have HX := Lib.hid hX; clear hX
      have HN := Lib.hid hN; clear hN
      have hlen := Lz.ext_length j
      by_cases h255 : j < 255
      · have hx := HX.out
        have hy := HN.out
        rw [Lz.ext_small h255] at hx hy
        have hone := own_one wr (UInt8.ofNat j) (j : Int) (by rw [bval_small (by omega)])
        have hb1 := hone.bytes
        have ho1 := ho.alloc (.cells #[.int .u8 (j : Int)] 5)
        have hbel2 : Below base w (wr.alloc (.cells #[.int .u8 (j : Int)] 5)) := hbel.alloc hsz _
        have hsz2 : base ≤ (wr.alloc (.cells #[.int .u8 (j : Int)] 5)).heap.size := by simp; omega
        have h255' : ¬ ((255 : Int) ≤ (j : Int)) := by omega
        have Hx := Lib.hid hx
        have Hy := Lib.hid hy
        have hm : m + 1 ≤ 140737488355328 := by simp at hy; omega
        clear hone ho hx hy HX HN hlen
        go_wp2_with (at_builtin; refine wpList_append_bytes rfl (.tmp 18) (.tmp 21) rfl base A' m c' M rfl ho1 _ _ 1 1 [UInt8.ofNat j] rfl rfl hb1 (by omega) hsz2 ?_; intro A2 c2 w2 ho3 hg3 hat3)
        go_ret
        rw [Hx.out] at ho3
        have hy := Hy.out
        rw [List.length_singleton] at hy
        rw [hy] at ho3
        exact ⟨A2, c2, by rw [← hy]; go_num, ho3, hbel2.grown hg3 hsz2 (fun k hk => (ho1.lt hk).1)⟩
      · have hx := HX.out
        have hy := HN.out
        rw [Lz.ext_great h255] at hx hy
        have hone := own_one wr 255 255 rfl
        have hb1 := hone.bytes
        have ho1 := ho.alloc (.cells #[.int .u8 255] 5)
        have hbel2 : Below base w (wr.alloc (.cells #[.int .u8 255] 5)) := hbel.alloc hsz _
        have hsz2 : base ≤ (wr.alloc (.cells #[.int .u8 255] 5)).heap.size := by simp; omega
        have h255' : (255 : Int) ≤ (j : Int) := by omega
        have hm : m + 1 ≤ 140737488355328 := by simp at hy; omega
        have Hx := Lib.hid hx
        have Hy := Lib.hid hy
        clear hone ho hx hy HX HN hlen
        go_wp2_with (at_builtin; refine wpList_append_bytes rfl (.tmp 15) (.tmp 16) rfl base A' m c' M rfl ho1 _ _ 1 1 [255] rfl rfl hb1 (by omega) hsz2 ?_; intro A2 c2 w2 ho3 hg3 hat3)
        go_roundw
        case rel =>
          refine ⟨j - 255, m + 1, A2, c2, M ++ [255], by omega, ?_, by go_num, ho3, ?_, ?_, Nat.le_trans hsz2 hg3.size, hbel2.grown hg3 hsz2 (fun k hk => (ho1.lt hk).1)⟩
          · exact congrArg (Value.int .i64) (by omega)
          · rw [List.append_assoc, List.singleton_append]; exact Hx.out
          · have := Hy.out; rw [List.length_cons] at this; omega
        case measure => simp [intOf]; omega
theorem head_or {a m : Nat} (ha : a ≤ 15) (hm : m ≤ 15) : bits .or .i64 ((a : Int) * 16) (m : Int) = ((16 * a + m : Nat) : Int) := by
  rw [show (a : Int) * 16 = ((a * 2 ^ 4 : Nat) : Int) from by omega, i64_or_nat _ _ (by omega) (by omega), Nat.or_comm, lz_or_add 4 a m (by omega)]
  omega
set_option maxHeartbeats 1000000 in
theorem appendLiterals_any (A : Option Addr) (n c base : Nat) (l : List UInt8) (A2 : Option Addr) (n2 c2 B m : Nat) (t : List UInt8) (w : World) (hown : Own w base A n c l) (hbase : base ≤ w.heap.size)
    (ht : t.length = n2) (hb : Bytes w B A2 t) (hB : B ≤ base) (hm : m ≤ 15) (hn2 : n2 ≤ 1000000000000) (hn : n ≤ 100000000000000) :
    Calls Tryz.prog 72 #[.slice A n c, .slice A2 n2 c2, .int .i64 (m : Int)] w (MadeAt base w (n + (Lz.lits t m).length) (l ++ Lz.lits t m)) := by
  have hll := Lz.lits_length t m
  have hle := Lz.exts_length_le n2
  have hlit : Lz.lits t m = [Lz.head n2 m] ++ Lz.exts n2 ++ t := by unfold Lz.lits; rw [ht]
  have hhead : Lz.head n2 m = UInt8.ofNat (16 * min n2 15 + m) := rfl
  rw [ht] at hll
  rw [hll, hlit, hhead]
  have ha : min n2 15 ≤ 15 := by omega
  have H1 := fun A' c' w' ho hb => appendExtension_any A' (n + 1) c' base n2 (l ++ [UInt8.ofNat (16 * min n2 15 + m)]) w' ho hb (by omega) (by omega)
  have hone := own_one w (UInt8.ofNat (16 * min n2 15 + m)) ((16 * min n2 15 + m : Nat) : Int) (by rw [bval_small (by omega)])
  have hlt : 16 * min n2 15 + m < 256 := by omega
  have hor := head_or ha hm
  by_cases h15 : n2 ≤ 15
  · have h15' : (n2 : Int) ≤ 15 := by omega
    rw [show ((min n2 15 : Nat) : Int) = (n2 : Int) from by omega] at hor
    generalize 16 * min n2 15 + m = h at *
    clear ha
    replace H1 := Lib.hid H1
    generalize hE : Lz.exts n2 = E at *
    have Ht := Lib.hid ht
    clear hE ht hlit hhead hll
    have hb1 := hone.bytes
    have ho1 := hown.alloc (.cells #[.int .u8 (h : Int)] 5)
    have hbel : Below base w (w.alloc (.cells #[.int .u8 (h : Int)] 5)) := (Below.refl _ _).alloc hbase _
    have hsz2 : base ≤ (w.alloc (.cells #[.int .u8 (h : Int)] 5)).heap.size := by simp; omega
    have hb := hb.wide hB
    clear hone hown
    go_enter Tryz.func72, Tryz.ntmps72
    go_wp2_with (at_builtin; refine wpList_append_bytes rfl (.tmp 11) (.tmp 17) rfl base A n c l rfl ho1 _ _ 1 1 [UInt8.ofNat h] rfl rfl hb1 (by omega) hsz2 ?_; intro A3 c3 w3 ho3 hg3 hat3)
    have hbel3 := hbel.grown hg3 hsz2 (fun k hk => (ho1.lt hk).1)
    have hsz3 := Nat.le_trans hsz2 hg3.size
    clear ho1 hb1 hg3 hat3
    refine (H1.out A3 c3 w3 ho3 hsz3).mono ?_
    rintro e w4 ⟨A4, c4, rfl, ho4, hb4⟩
    have hbel4 := hbel3.trans hb4
    have hb5 := hb.below hbel4
    have hsz4 : base ≤ w4.heap.size := Nat.le_trans hbase hbel4.size
    clear hb H1
    go_wp2_with (at_builtin; refine wpList_append_bytes rfl (.tmp 23) (.tmp 24) rfl base A4 (n + 1 + E.length) c4 _ rfl ho4 _ A2 n2 c2 t rfl Ht.out hb5 (by omega) hsz4 ?_; intro A6 c6 w6 ho6 hg6 hat6)
    go_ret
    refine ⟨A6, c6, ?_, ?_, hbel4.grown hg6 hsz4 (fun k hk => (ho4.lt hk).1)⟩
    · exact congrArg (fun x => Ending.returned (.slice A6 x c6)) (by omega)
    · rw [show n + (1 + E.length + n2) = n + 1 + E.length + n2 from by omega]
      simpa [List.append_assoc] using ho6
  · have h15' : ¬ ((n2 : Int) ≤ 15) := by omega
    rw [show ((min n2 15 : Nat) : Int) * 16 = 240 from by omega] at hor
    generalize 16 * min n2 15 + m = h at *
    clear ha
    replace H1 := Lib.hid H1
    generalize hE : Lz.exts n2 = E at *
    have Ht := Lib.hid ht
    clear hE ht hlit hhead hll
    have hb1 := hone.bytes
    have ho1 := hown.alloc (.cells #[.int .u8 (h : Int)] 5)
    have hbel : Below base w (w.alloc (.cells #[.int .u8 (h : Int)] 5)) := (Below.refl _ _).alloc hbase _
    have hsz2 : base ≤ (w.alloc (.cells #[.int .u8 (h : Int)] 5)).heap.size := by simp; omega
    have hb := hb.wide hB
    clear hone hown
    go_enter Tryz.func72, Tryz.ntmps72
    go_wp2_with (at_builtin; refine wpList_append_bytes rfl (.tmp 11) (.tmp 17) rfl base A n c l rfl ho1 _ _ 1 1 [UInt8.ofNat h] rfl rfl hb1 (by omega) hsz2 ?_; intro A3 c3 w3 ho3 hg3 hat3)
    have hbel3 := hbel.grown hg3 hsz2 (fun k hk => (ho1.lt hk).1)
    have hsz3 := Nat.le_trans hsz2 hg3.size
    clear ho1 hb1 hg3 hat3
    refine (H1.out A3 c3 w3 ho3 hsz3).mono ?_
    rintro e w4 ⟨A4, c4, rfl, ho4, hb4⟩
    have hbel4 := hbel3.trans hb4
    have hb5 := hb.below hbel4
    have hsz4 : base ≤ w4.heap.size := Nat.le_trans hbase hbel4.size
    clear hb H1
    go_wp2_with (at_builtin; refine wpList_append_bytes rfl (.tmp 23) (.tmp 24) rfl base A4 (n + 1 + E.length) c4 _ rfl ho4 _ A2 n2 c2 t rfl Ht.out hb5 (by omega) hsz4 ?_; intro A6 c6 w6 ho6 hg6 hat6)
    go_ret
    refine ⟨A6, c6, ?_, ?_, hbel4.grown hg6 hsz4 (fun k hk => (ho4.lt hk).1)⟩
    · exact congrArg (fun x => Ending.returned (.slice A6 x c6)) (by omega)
    · rw [show n + (1 + E.length + n2) = n + 1 + E.length + n2 from by omega]
      simpa [List.append_assoc] using ho6
theorem own_two (w : World) (b d : UInt8) (x y : Int) (h : bval b = .int .u8 x) (h2 : bval d = .int .u8 y) : Own (w.alloc (.cells #[.int .u8 x, .int .u8 y] 5)) w.heap.size (some ⟨w.heap.size, 0, none⟩) 2 2 [b, d] := by
  have h1 := own_lit w w.heap.size [b, d] (Nat.le_refl _) (by simp [maxLen])
  rw [show (bvals [b, d]).toArray = #[bval b, bval d] from rfl, h, h2] at h1
  exact h1
set_option maxHeartbeats 1000000 in
theorem appendPart_any (A : Option Addr) (n c base : Nat) (l : List UInt8) (A2 : Option Addr) (n2 c2 B d k : Nat) (t : List UInt8) (w : World) (hown : Own w base A n c l) (hbase : base ≤ w.heap.size)
    (ht : t.length = n2) (hb : Bytes w B A2 t) (hB : B ≤ base) (hd : d ≤ 65535) (hk : 4 ≤ k) (hk2 : k ≤ 1000000000000) (hn2 : n2 ≤ 1000000000000) (hn : n ≤ 10000000000000) :
    Calls Tryz.prog 71 #[.slice A n c, .slice A2 n2 c2, .int .i64 (d : Int), .int .i64 (k : Int)] w (MadeAt base w (n + (Lz.part t d k).length) (l ++ Lz.part t d k)) := by
  obtain ⟨q, rfl⟩ : ∃ q, k = q + 4 := ⟨k - 4, by omega⟩
  have hpart : Lz.part t d (q + 4) = Lz.lits t (min q 15) ++ [UInt8.ofNat d, UInt8.ofNat (d / 256)] ++ Lz.exts q := by unfold Lz.part; rw [show q + 4 - 4 = q from by omega]
  have hpl : (Lz.part t d (q + 4)).length = (Lz.lits t (min q 15)).length + 2 + (Lz.exts q).length := by rw [hpart]; simp; omega
  have hll := Lz.lits_length t (min q 15)
  have hle := Lz.exts_length_le n2
  rw [ht] at hll
  rw [hpl, hpart]
  have H1 := Lib.hid fun m (hm : m ≤ 15) => appendLiterals_any A n c base l A2 n2 c2 B m t w hown hbase ht hb hB hm hn2 (by omega)
  have hM : min q 15 ≤ 15 := by omega
  have H2 := fun A' c' w' ho hb => appendExtension_any A' (n + (Lz.lits t (min q 15)).length + 2) c' base q (l ++ Lz.lits t (min q 15) ++ [UInt8.ofNat d, UInt8.ofNat (d / 256)]) w' ho hb (by omega) (by omega)
  replace H2 := Lib.hid H2
  rw [show ((q + 4 : Nat) : Int) = (q : Int) + 4 from by omega]
  have hL : (Lz.lits t (min q 15)).length ≤ 2000000000000 := by omega
  generalize hE : Lz.exts q = E at *
  clear hE hb hpart hpl hll hle
  by_cases h15 : q ≤ 15
  · have h15' : (q : Int) ≤ 15 := by omega
    rw [show min q 15 = q from by omega] at *
    have Hm := Lib.hid hM
    go_enter Tryz.func71, Tryz.ntmps71
    go_wp2_with fail
    refine (H1.out q hM).mono ?_
    rintro e w1 ⟨A1, c1, rfl, ho1, hb1⟩
    clear H1 hown
    have hsz1 : base ≤ w1.heap.size := Nat.le_trans hbase hb1.size
    have htwo := own_two w1 (UInt8.ofNat d) (UInt8.ofNat (d / 256)) ((d : Int) % 256) ((d : Int) / 256) (bval_ofNat d) (by rw [bval_ofNat]; exact congrArg _ (by omega))
    have hbt := htwo.bytes
    have ho2 := ho1.alloc (.cells #[.int .u8 ((d : Int) % 256), .int .u8 ((d : Int) / 256)] 5)
    have hbel : Below base w (w1.alloc (.cells #[.int .u8 ((d : Int) % 256), .int .u8 ((d : Int) / 256)] 5)) := hb1.alloc hsz1 _
    have hsz2 : base ≤ (w1.alloc (.cells #[.int .u8 ((d : Int) % 256), .int .u8 ((d : Int) / 256)] 5)).heap.size := by simp; omega
    clear htwo ho1
    go_wp2_with (at_builtin; refine wpList_append_bytes rfl (.tmp 17) (.tmp 23) rfl base A1 (n + (Lz.lits t q).length) c1 _ rfl ho2 _ _ 2 2 [UInt8.ofNat d, UInt8.ofNat (d / 256)] rfl rfl hbt (by omega) hsz2 ?_; intro A3 c3 w3 ho3 hg3 hat3)
    have hbel3 := hbel.grown hg3 hsz2 (fun k hk => (ho2.lt hk).1)
    have hsz3 := Nat.le_trans hsz2 hg3.size
    clear ho2 hbt hg3 hat3
    refine (H2.out A3 c3 w3 ho3 hsz3).mono ?_
    rintro e w4 ⟨A4, c4, rfl, ho4, hb4⟩
    go_wp2
    go_ret
    refine ⟨A4, c4, ?_, ?_, hbel3.trans hb4⟩
    · exact congrArg (fun x => Ending.returned (.slice A4 x c4)) (by omega)
    · rw [show n + ((Lz.lits t q).length + 2 + E.length) = n + (Lz.lits t q).length + 2 + E.length from by omega]
      simpa [List.append_assoc] using ho4
  · have h15' : ¬ ((q : Int) ≤ 15) := by omega
    rw [show min q 15 = 15 from by omega] at *
    have Hm := Lib.hid hM
    go_enter Tryz.func71, Tryz.ntmps71
    go_wp2_with fail
    refine (H1.out 15 hM).mono ?_
    rintro e w1 ⟨A1, c1, rfl, ho1, hb1⟩
    clear H1 hown
    have hsz1 : base ≤ w1.heap.size := Nat.le_trans hbase hb1.size
    have htwo := own_two w1 (UInt8.ofNat d) (UInt8.ofNat (d / 256)) ((d : Int) % 256) ((d : Int) / 256) (bval_ofNat d) (by rw [bval_ofNat]; exact congrArg _ (by omega))
    have hbt := htwo.bytes
    have ho2 := ho1.alloc (.cells #[.int .u8 ((d : Int) % 256), .int .u8 ((d : Int) / 256)] 5)
    have hbel : Below base w (w1.alloc (.cells #[.int .u8 ((d : Int) % 256), .int .u8 ((d : Int) / 256)] 5)) := hb1.alloc hsz1 _
    have hsz2 : base ≤ (w1.alloc (.cells #[.int .u8 ((d : Int) % 256), .int .u8 ((d : Int) / 256)] 5)).heap.size := by simp; omega
    clear htwo ho1
    go_wp2_with (at_builtin; refine wpList_append_bytes rfl (.tmp 17) (.tmp 23) rfl base A1 (n + (Lz.lits t 15).length) c1 _ rfl ho2 _ _ 2 2 [UInt8.ofNat d, UInt8.ofNat (d / 256)] rfl rfl hbt (by omega) hsz2 ?_; intro A3 c3 w3 ho3 hg3 hat3)
    have hbel3 := hbel.grown hg3 hsz2 (fun k hk => (ho2.lt hk).1)
    have hsz3 := Nat.le_trans hsz2 hg3.size
    clear ho2 hbt hg3 hat3
    refine (H2.out A3 c3 w3 ho3 hsz3).mono ?_
    rintro e w4 ⟨A4, c4, rfl, ho4, hb4⟩
    go_wp2
    go_ret
    refine ⟨A4, c4, ?_, ?_, hbel3.trans hb4⟩
    · exact congrArg (fun x => Ending.returned (.slice A4 x c4)) (by omega)
    · rw [show n + ((Lz.lits t 15).length + 2 + E.length) = n + (Lz.lits t 15).length + 2 + E.length from by omega]
      simpa [List.append_assoc] using ho4
end Go.Proofs.YtoebeibmmclhpaaGreat

/- lz.Pack -/
namespace Go.Proofs.YtoebeibmmclhpaaGreat
open Go.RowKit Go.Maps
set_option maxRecDepth 100000
theorem Hist.below {w w' : World} {M B : Nat} {b : List UInt8} {i : Nat} (h : Hist w M b i) (hb : Below B w w') (hM : M < B) : Hist w' M b i := by
  obtain ⟨D, k, hk, ⟨es, clock, h1, h2⟩, r⟩ := h
  exact ⟨D, k, hk, ⟨es, clock, (hb.block M hM).trans h1, h2⟩, r⟩
theorem hist_made (w : World) (b : List UInt8) : Hist (w.alloc (.map #[] 0)) w.heap.size b 0 := by
  refine ⟨.map [], 0, Nat.le_refl _, World.ownsMap_made w _ _ _, fun q _ => ⟨none, fun k hk => by omega, rfl⟩⟩
/-- what holds between the rounds: the struct and the map in it, made by this call as its first two blocks -/
def PSt (w : World) (G : Nat) (A : Option Addr) (n cap : Nat) (l : List UInt8) (p : Nat) (wr : World) : Prop :=
  wr.cell? ⟨G + 1, 0, none⟩ = some (.slice A n cap) ∧ wr.cell? ⟨G + 1, 1, none⟩ = some (.map (some G)) ∧ (p + 4 ≤ n → Hist wr G l p) ∧ Below G w wr ∧ G + 2 ≤ wr.heap.size
namespace PSt
variable {w wr wr' : World} {G : Nat} {A : Option Addr} {n cap : Nat} {l : List UInt8} {p : Nat}
theorem below (h : PSt w G A n cap l p wr) (hb : Below (G + 2) wr wr') : PSt w G A n cap l p wr' := by
  obtain ⟨h1, h2, h3, h4, h5⟩ := h
  exact ⟨(hb.cell (p := ⟨G + 1, 0, none⟩) (by show G + 1 < G + 2; omega)).trans h1, (hb.cell (p := ⟨G + 1, 1, none⟩) (by show G + 1 < G + 2; omega)).trans h2, fun h => (h3 h).below hb (by omega), h4.trans (hb.mono (by omega)), Nat.le_trans h5 hb.size⟩
theorem drawn (h : PSt w G A n cap l p wr) (hd : Drawn wr wr') : PSt w G A n cap l p wr' := h.below (hd.below _)
theorem add (h : PSt w G A n cap l p wr) (hg : wr.grownBy wr' (some G)) (hh : p + 4 ≤ n → Hist wr' G l (p + 1)) (hw : G ≤ wr.heap.size) : PSt w G A n cap l (p + 1) wr' := by
  obtain ⟨h1, h2, h3, h4, h5⟩ := h
  exact ⟨hg.cell h1 (by simp), hg.cell h2 (by simp), fun h => hh (by omega), h4.grown hg hw (fun k hk => by cases hk; exact Nat.le_refl _), Nat.le_trans h5 hg.size⟩
end PSt
theorem Own.add {w w' : World} {G : Nat} {A : Option Addr} {n c : Nat} {l : List UInt8} (h : Own w (G + 2) A n c l) (hg : w.grownBy w' (some G)) : Own w' (G + 2) A n c l :=
  h.kept hg (by
    rcases hA : blk A with _ | k
    · exact .inl rfl
    · refine .inr fun e => ?_
      have := (h.lt hA).1
      injection e with e
      omega)
theorem own_none' (w : World) (base : Nat) : Own w base none 0 0 [] := World.ownsRow_nil w base _ _
set_option maxHeartbeats 4000000 in
theorem lzPack_any (A : Option Addr) (n cap B : Nat) (l : List UInt8) (w : World) (hl : l.length = n) (hcap : n ≤ cap) (hm : n ≤ 1000000000) (hb : Bytes w B A l) (hB : B ≤ w.heap.size) :
    Calls Tryz.prog 39 #[.slice A n cap] w (MadeAt w.heap.size w (Lz.packed l).length (Lz.packed l)) := by
  have hmm := @run_makeMap Tryz.prog
  have hst0 : PSt w w.heap.size A n cap l 0 ((w.alloc (.map #[] 0)).alloc (.cells #[.slice A n cap, .map (some w.heap.size)] 91)) := by
    have e1 : (w.alloc (.map #[] 0)).heap.size = w.heap.size + 1 := by simp
    refine ⟨?_, ?_, fun _ => ?_, ?_, ?_⟩
    · rw [World.cell?_alloc_at _ _ _ _ (by rw [e1])]; rfl
    · rw [World.cell?_alloc_at _ _ _ _ (by rw [e1])]; rfl
    · exact (hist_made w l).kept (World.grownBy_alloc _ _ none) (by simp)
    · exact ((Below.refl _ w).alloc (Nat.le_refl _) _).alloc (by simp) _
    · simp
  have hXl := Lz.packed_length l
  rw [hl] at hXl
  obtain ⟨X, hX⟩ : ∃ X, X = Lz.packed l := ⟨_, rfl⟩
  rw [← hX] at hXl ⊢
  have HX := Lib.hid (show Lz.pack l (n + 1) 0 0 = X from by rw [hX, Lz.packed, hl])
  have Hl := Lib.hid hl
  have hb := hb.wide hB
  clear hX hl hB
  have HF := Lib.hid fun p w' h4 hbw hB' hh => find_any A n cap w.heap.size w.heap.size p l w' Hl.out h4 (by omega) hbw hB' hh
  have HA := Lib.hid fun p w' hp hbw hB' hh => add_any A n cap w.heap.size w.heap.size p l w' Hl.out (by omega) hp hbw hB' (Nat.le_refl _) hh
  have HG := Lib.hid fun k p w' hk hp hbw => agreeing_any A n cap w.heap.size k p l w' Hl.out hk hp (by omega) hbw
  go_enter Tryz.func39, Tryz.ntmps39
  go_wp2
  generalize (w.alloc (.map #[] 0)).alloc (.cells #[.slice A n cap, .map (some w.heap.size)] 91) = w0 at *
  generalize hGe : w.heap.size = G at *
  have HGe := Lib.hid hGe; clear hGe
  clear hmm
  go_loopw [3, 5, 6] (fun o s i wr => ∃ (m s' p f : Nat) (A' : Option Addr) (c' : Nat) (T : List UInt8), o = .slice A' m c' ∧ s = .int .i64 s' ∧ i = .int .i64 p ∧ s' ≤ p ∧ p ≤ n ∧ n - p < f ∧ T ++ Lz.pack l f s' p = X ∧ Own wr (G + 2) A' m c' T ∧ PSt w G A n cap l p wr) (fun _ _ i _ => n - (intOf i).toNat)
  case atStart => exact ⟨0, 0, 0, n + 1, none, 0, [], rfl, rfl, rfl, Nat.le_refl _, Nat.zero_le _, by omega, HX.out, own_none' _ _, hst0⟩
  case round =>
    clear hst0 HX
    obtain ⟨m, s, p, f, A', c', T, rfl, rfl, rfl, hsp, hpn, hf, hX, ho, hst⟩ := hrel
    obtain ⟨f, rfl⟩ : ∃ f', f = f' + 1 := ⟨f - 1, by omega⟩
    have hTl := ho.len
    have hmX : m ≤ X.length := by rw [← hX, List.length_append, hTl]; omega
    have hbr := hb.below hst.2.2.2.1
    have hGr : G + 2 ≤ wr.heap.size := hst.2.2.2.2
    rw [Lz.pack] at hX
    by_cases h4 : p + 4 ≤ n
    · rw [if_pos (by rw [Hl.out]; exact h4)] at hX
      have H1 := HF.out p wr h4 hbr (by omega) (hst.2.2.1 h4)
      have h4' : (p : Int) + 4 ≤ (n : Int) := by omega
      have c0 := hst.1
      have c1 := hst.2.1
      rcases hbf : Lz.before l p p with _ | k
      · rw [hbf] at hX H1
        simp only [foundVal] at H1
        dsimp only at hX
        replace H1 := Lib.hid H1
        have HX := Lib.hid hX
        clear hX hTl hbf hbr
        go_wp2_with fail
        refine H1.out.mono ?_
        rintro e w1 ⟨rfl, hb1⟩
        have hb1' := hb1.mono hGr
        replace hst := hst.below hb1'
        replace ho := ho.below (hb1)
        have hGr1 := hst.2.2.2.2
        have H2 := Lib.hid (HA.out p w1 (by omega) (hb.below hst.2.2.2.1) (by omega) hst.2.2.1)
        replace c0 := hst.1
        replace c1 := hst.2.1
        clear H1 hb1 hb1'
        go_wp2_with fail
        refine H2.out.mono ?_
        rintro e w2 ⟨rfl, hh2, hg2⟩
        have ho2 := ho.add hg2
        have hst2 := hst.add hg2 hh2 (by omega)
        clear H2 c0 c1 ho hst
        go_wp2
        go_roundw
        case rel => exact ⟨m, s, p + 1, f, A', c', T, rfl, rfl, by go_num, by omega, by omega, by omega, HX.out, ho2, hst2⟩
        case measure => simp [intOf]; omega
      · have hlast := Lz.before_last l p
        rw [hbf] at hX H1 hlast
        simp only [foundVal] at H1
        dsimp only at hX
        have hkp := hlast.1
        have hkd := hlast.2.1
        have hN4 := (Lz.cpl_four hkp (by rw [Hl.out]; exact h4) hlast.2.2.1).1
        have hNn := Lz.cpl_le (b := l) hkp (by rw [Hl.out]; exact hpn)
        rw [Hl.out] at hNn
        have H2 := HG.out k p
        generalize Lz.cpl (l.drop k) (l.drop p) = N at *
        have hls : ((l.drop s).take (p - s)).length = p - s := by rw [List.length_take, List.length_drop, Hl.out]; omega
        have hpl := Lz.part_length ((l.drop s).take (p - s)) (p - k) N
        have hpx : m + (Lz.part ((l.drop s).take (p - s)) (p - k) N).length ≤ X.length := by rw [← hX, List.length_append, List.length_append, hTl]; omega
        rw [← List.append_assoc] at hX
        have hrun := run_cut_lh A n cap s p hsp (by omega)
        have H3 := fun wq ho hG hbw => appendPart_any A' m c' (G + 2) T (cutAt A cap s) (p - s) (cap - s) G (p - k) N ((l.drop s).take (p - s)) wq ho hG hls hbw (by omega) (by omega) hN4 (by omega) (by omega) (by omega)
        have hcutB := fun wq (h : Bytes wq G A l) => (h.cut (k := s) (cap := cap) (by rw [Hl.out]; omega) (by rw [Hl.out]; omega)).take (p - s)
        rw [show ((p - k : Nat) : Int) = (p : Int) - (k : Int) from by omega] at H3
        generalize cutAt A cap s = As at *
        generalize (l.drop s).take (p - s) = Y at *
        generalize Lz.part Y (p - k) N = PT at *
        generalize p - s = ls at *
        generalize cap - s = cs at *
        replace H1 := Lib.hid H1
        replace H2 := Lib.hid H2
        replace H3 := Lib.hid H3
        have HcB := Lib.hid hcutB
        have HX := Lib.hid hX
        clear hX hTl hbf hbr hlast hls hpl hcutB
        go_wp2_with fail
        refine H1.out.mono ?_
        rintro e w1 ⟨rfl, hb1⟩
        replace hst := hst.below (hb1.mono hGr)
        replace ho := ho.below hb1
        replace c0 := hst.1
        replace c1 := hst.2.1
        clear H1 hb1
        go_wp2_with fail
        refine (H2.out w1 hkp hpn (hb.below hst.2.2.2.1)).mono ?_
        rintro e w2 ⟨rfl, hd2⟩
        replace hst := hst.drawn hd2
        replace ho := ho.below (hd2.below _)
        replace c0 := hst.1
        replace c1 := hst.2.1
        clear H2 hd2
        go_wp2_with fail
        refine (H3.out w2 ho hst.2.2.2.2 (HcB.out _ (hb.below hst.2.2.2.1))).mono ?_
        rintro e w3 ⟨A3, c3, rfl, ho3, hb3⟩
        replace hst := hst.below hb3
        replace c0 := hst.1
        replace c1 := hst.2.1
        clear H3 hb3 ho hrun HcB
        go_wp2
        go_loopw [6, 46] (fun i t wq => ∃ (j : Nat), j ≤ N ∧ i = .int .i64 ((p : Int) + (j : Int)) ∧ t = .int .i64 j ∧ Own wq (G + 2) A3 (m + PT.length) c3 (T ++ PT) ∧ PSt w G A n cap l (p + j) wq) (fun _ t _ => N - (intOf t).toNat)
        case atStart => exact ⟨0, Nat.zero_le _, by go_num, rfl, ho3, hst⟩
        case round =>
          clear hst ho3 c0 c1
          obtain ⟨j, hj, rfl, rfl, ho, hst⟩ := hrel
          have c0 := hst.1
          have c1 := hst.2.1
          have hGq := hst.2.2.2.2
          by_cases hjN : j < N
          · have H4 := HA.out (p + j) _ (by omega) (hb.below hst.2.2.2.1) (by omega) hst.2.2.1
            rw [Int.natCast_add] at H4
            replace H4 := Lib.hid H4
            go_wp2_with fail
            refine H4.out.mono ?_
            rintro e w5 ⟨rfl, hh5, hg5⟩
            have ho5 := ho.add hg5
            have hst5 := hst.add hg5 hh5 (by omega)
            clear H4 c0 c1 ho hst
            go_wp2
            go_roundw
            case rel => exact ⟨j + 1, by omega, by go_num, by go_num, ho5, hst5⟩
            case measure => simp [intOf]; omega
          · obtain rfl : j = N := by omega
            go_wp2
            go_roundw
            case rel => exact ⟨m + PT.length, p + j, p + j, f, A3, c3, T ++ PT, rfl, by go_num, by go_num, Nat.le_refl _, by omega, by omega, HX.out, ho, hst⟩
            case measure => simp [intOf]; omega
    · rw [if_neg (by rw [Hl.out]; exact h4)] at hX
      have h4' : ¬ ((p : Int) + 4 ≤ (n : Int)) := by omega
      have hls : (l.drop s).length = n - s := by rw [List.length_drop, Hl.out]
      have hrun := run_cut_l A n cap s (by omega)
      have hcut := hbr.cut (k := s) (cap := cap) (by rw [Hl.out]; omega) (by rw [Hl.out]; omega)
      have H1 := appendLiterals_any A' m c' (G + 2) T (cutAt A cap s) (n - s) (cap - s) G 0 (l.drop s) wr ho hGr hls hcut (by omega) (by omega) (by omega) (by omega)
      rw [Int.natCast_zero, hX] at H1
      have hXX : m + (Lz.lits (l.drop s) 0).length = X.length := by rw [← hX, List.length_append, hTl]
      rw [hXX] at H1
      generalize cutAt A cap s = As at *
      generalize n - s = ls at *
      generalize cap - s = cs at *
      replace H1 := Lib.hid H1
      clear hXX hX hcut hls hTl
      go_wp2_with fail
      refine H1.out.mono ?_
      rintro e w1 ⟨A1, c1, rfl, ho1, hb1⟩
      have hbel := hst.2.2.2.1.trans (hb1.mono (by omega))
      clear H1
      go_wp2
      go_ret
      exact ⟨A1, c1, rfl, ho1.low (by omega), hbel⟩
end Go.Proofs.YtoebeibmmclhpaaGreat

/- dragnetref05: four, before, more, sum. -/
namespace Go.Proofs.YtoebeibmmclhpaaGreat
open Go.RowKit
set_option maxRecDepth 100000
set_option maxHeartbeats 2000000 in
theorem four_any (A : Option Addr) (n cap B i k : Nat) (l : List UInt8) (w : World) (hl : l.length = n) (hi : i + 4 ≤ n) (hk : k + 4 ≤ n) (hm : n ≤ 281474976710656) (hb : Bytes w B A l) :
    Calls Tryz.prog 83 #[.slice A n cap, .int .i64 (i : Int), .int .i64 (k : Int)] w fun e w' => e = .returned (.bool (decide (Lz.quad l i = Lz.quad l k))) ∧ Drawn w w' := by
  obtain ⟨ad, rfl⟩ := hb.addr (k := i) (by omega)
  have cx0 := hb.at_ (k := i) (by omega)
  have rx0 := run_index_at ad n cap i (by omega)
  have cx1 := hb.at_ (k := i + 1) (by omega)
  have rx1 := run_index_at ad n cap (i + 1) (by omega)
  rw [show ((i + 1 : Nat) : Int) = (i : Int) + 1 from by omega] at rx1
  have cx2 := hb.at_ (k := i + 2) (by omega)
  have rx2 := run_index_at ad n cap (i + 2) (by omega)
  rw [show ((i + 2 : Nat) : Int) = (i : Int) + 2 from by omega] at rx2
  have cx3 := hb.at_ (k := i + 3) (by omega)
  have rx3 := run_index_at ad n cap (i + 3) (by omega)
  rw [show ((i + 3 : Nat) : Int) = (i : Int) + 3 from by omega] at rx3
  have cy0 := hb.at_ (k := k) (by omega)
  have ry0 := run_index_at ad n cap k (by omega)
  have cy1 := hb.at_ (k := k + 1) (by omega)
  have ry1 := run_index_at ad n cap (k + 1) (by omega)
  rw [show ((k + 1 : Nat) : Int) = (k : Int) + 1 from by omega] at ry1
  have cy2 := hb.at_ (k := k + 2) (by omega)
  have ry2 := run_index_at ad n cap (k + 2) (by omega)
  rw [show ((k + 2 : Nat) : Int) = (k : Int) + 2 from by omega] at ry2
  have cy3 := hb.at_ (k := k + 3) (by omega)
  have ry3 := run_index_at ad n cap (k + 3) (by omega)
  rw [show ((k + 3 : Nat) : Int) = (k : Int) + 3 from by omega] at ry3
  have hq : (Lz.at_ l i = Lz.at_ l k ∧ Lz.at_ l (i + 1) = Lz.at_ l (k + 1) ∧ Lz.at_ l (i + 2) = Lz.at_ l (k + 2) ∧ Lz.at_ l (i + 3) = Lz.at_ l (k + 3)) ↔ Lz.quad l i = Lz.quad l k :=
    ⟨fun ⟨h0, h1, h2, h3⟩ => by unfold Lz.quad; rw [h0, h1, h2, h3], fun h => Lz.quad_eq h⟩
  generalize Lz.at_ l i = x0 at *
  generalize ad.add i = px0 at *
  generalize Lz.at_ l (i + 1) = x1 at *
  generalize ad.add (i + 1) = px1 at *
  generalize Lz.at_ l (i + 2) = x2 at *
  generalize ad.add (i + 2) = px2 at *
  generalize Lz.at_ l (i + 3) = x3 at *
  generalize ad.add (i + 3) = px3 at *
  generalize Lz.at_ l k = y0 at *
  generalize ad.add k = py0 at *
  generalize Lz.at_ l (k + 1) = y1 at *
  generalize ad.add (k + 1) = py1 at *
  generalize Lz.at_ l (k + 2) = y2 at *
  generalize ad.add (k + 2) = py2 at *
  generalize Lz.at_ l (k + 3) = y3 at *
  generalize ad.add (k + 3) = py3 at *
  generalize Lz.quad l i = q1 at *
  generalize Lz.quad l k = q2 at *
  have HQ := Lib.hid hq
  have hi0 : (0 : Int) ≤ (i : Int) := by omega
  have hi1 : (i : Int) + 3 < (n : Int) := by omega
  have hk0 : (0 : Int) ≤ (k : Int) := by omega
  have hk1 : (k : Int) + 3 < (n : Int) := by omega
  clear hb hq hl
  by_cases e0 : x0 = y0
  · have d0 : ((x0 : Int) == (y0 : Int)) = true := by simp; omega
    have E0 := Lib.hid e0; clear e0
    by_cases e1 : x1 = y1
    · have d1 : ((x1 : Int) == (y1 : Int)) = true := by simp; omega
      have E1 := Lib.hid e1; clear e1
      by_cases e2 : x2 = y2
      · have d2 : ((x2 : Int) == (y2 : Int)) = true := by simp; omega
        have E2 := Lib.hid e2; clear e2
        by_cases e3 : x3 = y3
        · have d3 : ((x3 : Int) == (y3 : Int)) = true := by simp; omega
          have E3 := Lib.hid e3; clear e3
          go_enter Tryz.func83, Tryz.ntmps83
          go_wp2_with fail
          go_quiet (fail)
          go_wp2
          go_ret
          exact ⟨by rw [decide_eq_true (HQ.out.1 ⟨E0.out, E1.out, E2.out, E3.out⟩)]; rfl, ⟨_, rfl⟩⟩
        · have d3 : ((x3 : Int) == (y3 : Int)) = false := by simp; omega
          have NE := Lib.hid (show ¬ (x0 = y0 ∧ x1 = y1 ∧ x2 = y2 ∧ x3 = y3) from fun h => e3 h.2.2.2)
          clear e3
          go_enter Tryz.func83, Tryz.ntmps83
          go_wp2_with fail
          go_quiet (fail)
          go_wp2
          go_ret
          exact ⟨by rw [decide_eq_false (fun h => NE.out (HQ.out.2 h))]; rfl, ⟨_, rfl⟩⟩
      · have d2 : ((x2 : Int) == (y2 : Int)) = false := by simp; omega
        have NE := Lib.hid (show ¬ (x0 = y0 ∧ x1 = y1 ∧ x2 = y2 ∧ x3 = y3) from fun h => e2 h.2.2.1)
        clear e2
        go_enter Tryz.func83, Tryz.ntmps83
        go_wp2_with fail
        go_quiet (fail)
        go_wp2
        go_ret
        exact ⟨by rw [decide_eq_false (fun h => NE.out (HQ.out.2 h))]; rfl, ⟨_, rfl⟩⟩
    · have d1 : ((x1 : Int) == (y1 : Int)) = false := by simp; omega
      have NE := Lib.hid (show ¬ (x0 = y0 ∧ x1 = y1 ∧ x2 = y2 ∧ x3 = y3) from fun h => e1 h.2.1)
      clear e1
      go_enter Tryz.func83, Tryz.ntmps83
      go_wp2_with fail
      go_quiet (fail)
      go_wp2
      go_ret
      exact ⟨by rw [decide_eq_false (fun h => NE.out (HQ.out.2 h))]; rfl, ⟨_, rfl⟩⟩
  · have d0 : ((x0 : Int) == (y0 : Int)) = false := by simp; omega
    have NE := Lib.hid (show ¬ (x0 = y0 ∧ x1 = y1 ∧ x2 = y2 ∧ x3 = y3) from fun h => e0 h.1)
    clear e0
    go_enter Tryz.func83, Tryz.ntmps83
    go_wp2_with fail
    go_quiet (fail)
    go_wp2
    go_ret
    exact ⟨by rw [decide_eq_false (fun h => NE.out (HQ.out.2 h))]; rfl, ⟨_, rfl⟩⟩
theorem before_far {b : List UInt8} {i : Nat} : ∀ {k : Nat}, 65535 < i - k → Lz.before b i (k + 1) = none
  | 0, h => by rw [Lz.before, if_neg (by omega)]; rfl
  | k + 1, h => by rw [Lz.before, if_neg (by omega)]; exact before_far (by omega)
/-- what before answers -/
def lastVal : Option Nat → Int
  | none => -1
  | some k => (k : Int)
set_option maxHeartbeats 1000000 in
theorem before_any (A : Option Addr) (n cap B i : Nat) (l : List UInt8) (w : World) (hl : l.length = n) (hi : i + 4 ≤ n) (hm : n ≤ 281474976710656) (hb : Bytes w B A l) :
    Calls Tryz.prog 48 #[.slice A n cap, .int .i64 (i : Int)] w fun e w' => e = .returned (.int .i64 (lastVal (Lz.before l i i))) ∧ Drawn w w' := by
  have H := fun k w' hk hb' => four_any A n cap B k i l w' hl hk hi hm hb'
  obtain ⟨z, hz, hz0, hz1⟩ : ∃ z : Int, z = (i : Int) ∧ 0 ≤ z ∧ z ≤ 281474976710656 := ⟨i, rfl, by omega, by omega⟩
  rw [← hz] at H ⊢
  replace H := Lib.hid H
  obtain ⟨R, hR⟩ : ∃ R, R = Lz.before l i i := ⟨_, rfl⟩
  rw [← hR]
  have HR := Lib.hid hR.symm
  have HZ := Lib.hid hz
  have Hi := Lib.hid hi
  clear hR hz hl hi
  go_enter Tryz.func48, Tryz.ntmps48
  go_wp2
  go_loopw [5] (fun s wr => ∃ (k : Nat) (y : Int), s = .int .i64 y ∧ y = (k : Int) - 1 ∧ -1 ≤ y ∧ y ≤ 281474976710656 ∧ k ≤ i ∧ Lz.before l i k = R ∧ Bytes wr B A l ∧ Drawn w wr) (fun s _ => (intOf s + 1).toNat)
  case atStart => exact ⟨i, z - 1, rfl, by rw [HZ.out], by omega, by omega, Nat.le_refl _, HR.out, hb, Drawn.refl _⟩
  case round =>
    clear hb HR
    obtain ⟨k, y, rfl, hy, hy0, hy1, hk, hR, hb, hd⟩ := hrel
    have Hy := Lib.hid hy
    rcases k with _ | k
    · have hy2 : ¬ ((0 : Int) ≤ y) := by omega
      have HR := Lib.hid (show R = none from hR.symm)
      clear hy hR
      go_wp2
      go_ret
      exact ⟨by rw [HR.out]; rfl, hd⟩
    · have hy2 : (0 : Int) ≤ y := by omega
      have hyk : y = (k : Int) := by omega
      have Hyk := Lib.hid hyk
      by_cases h65 : i - k ≤ 65535
      · have h65' : z - y ≤ 65535 := by have := HZ.out; omega
        have hzy : (0 : Int) ≤ z - y := by have := HZ.out; omega
        rw [Lz.before] at hR
        have H1 := H.out k wr (by have := Hi.out; omega) hb
        rw [← hyk] at H1
        have HB := Lib.hid hb
        by_cases hq : Lz.quad l k = Lz.quad l i
        · rw [if_pos ⟨h65, hq⟩] at hR
          rw [decide_eq_true hq] at H1
          replace H1 := Lib.hid H1
          have HR := Lib.hid hR.symm
          clear hy hyk hR h65 hq hb hk
          go_wp2_with fail
          refine H1.out.mono ?_
          rintro e w1 ⟨rfl, hd1⟩
          clear H1
          go_wp2
          go_ret
          refine ⟨?_, hd.trans hd1⟩
          rw [HR.out]
          exact congrArg (fun x => Ending.returned (.int .i64 x)) Hyk.out
        · rw [if_neg (fun h => hq h.2)] at hR
          rw [decide_eq_false hq] at H1
          replace H1 := Lib.hid H1
          have HR := Lib.hid hR
          have Hk := Lib.hid hk
          clear hy hyk hR h65 hq hb hk
          go_wp2_with fail
          refine H1.out.mono ?_
          rintro e w1 ⟨rfl, hd1⟩
          clear H1
          go_wp2
          go_roundw
          case rel => exact ⟨k, y - 1, by go_num, by rw [Hyk.out], by omega, by omega, by have := Hk.out; omega, HR.out, bytes_drawn HB.out hd1, hd.trans hd1⟩
          case measure => simp [intOf]; omega
      · have h65' : ¬ (z - y ≤ 65535) := by have := HZ.out; omega
        rw [before_far (by omega)] at hR
        have HR := Lib.hid hR.symm
        have hzy : z - y ≤ 281474976710656 := by have := HZ.out; omega
        clear hy hyk hR h65 hk
        go_wp2
        go_ret
        exact ⟨by rw [HR.out]; rfl, hd⟩
theorem own_none2 (w : World) (base : Nat) : Own w base none 0 0 [] := World.ownsRow_nil w base _ _
set_option maxHeartbeats 1000000 in
theorem more_any (k : Nat) (w : World) (hk : k ≤ 1000000000000000) :
    Calls Tryz.prog 84 #[.int .i64 (k : Int)] w (MadeAt w.heap.size w (Lz.ext k).length (Lz.ext k)) := by
  have hlen := Lz.ext_length k
  generalize hX : Lz.ext k = X
  rw [hX] at hlen
  have HX := Lib.hid hX
  generalize hN : X.length = N at *
  have HN := Lib.hid hN
  have hNb : N ≤ 140737488355328 := by omega
  clear hX hN hlen
  go_enter Tryz.func84, Tryz.ntmps84
  go_wp2
  go_loopw [0, 3] (fun r s wr => ∃ (j m : Nat) (A' : Option Addr) (c' : Nat) (M : List UInt8), j ≤ k ∧ r = .int .i64 j ∧ s = .slice A' m c' ∧ Own wr w.heap.size A' m c' M ∧ M ++ Lz.ext j = X ∧ m + (Lz.ext j).length = N ∧ w.heap.size ≤ wr.heap.size ∧ Below w.heap.size w wr) (fun r _ _ => (intOf r).toNat)
  case atStart => exact ⟨k, 0, none, 0, [], Nat.le_refl _, rfl, rfl, own_none2 _ _, HX.out, by rw [HX.out, HN.out]; omega, Nat.le_refl _, Below.refl _ _⟩
  case round =>
    clear HX HN
    obtain ⟨j, m, A', c', M, hj, rfl, rfl, ho, hX, hN, hsz, hbel⟩ := hrel
    have HX := Lib.hid hX; clear hX
    have HN := Lib.hid hN; clear hN
    have hlen := Lz.ext_length j
    by_cases h255 : j < 255
    · have hx := HX.out
      have hy := HN.out
      rw [Lz.ext_small h255] at hx hy
      have hone := own_one wr (UInt8.ofNat j) (j : Int) (by rw [bval_small (by omega)])
      have hb1 := hone.bytes
      have ho1 := ho.alloc (.cells #[.int .u8 (j : Int)] 5)
      have hbel2 : Below w.heap.size w (wr.alloc (.cells #[.int .u8 (j : Int)] 5)) := hbel.alloc hsz _
      have hsz2 : w.heap.size ≤ (wr.alloc (.cells #[.int .u8 (j : Int)] 5)).heap.size := by simp; omega
      have h255' : ¬ ((255 : Int) ≤ (j : Int)) := by omega
      have Hx := Lib.hid hx
      have Hy := Lib.hid hy
      have hm : m + 1 ≤ 140737488355328 := by simp at hy; omega
      clear hone ho hx hy HX HN hlen
      go_wp2_with (at_builtin; refine wpList_append_bytes rfl (.tmp 11) (.tmp 14) rfl w.heap.size A' m c' M rfl ho1 _ _ 1 1 [UInt8.ofNat j] rfl rfl hb1 (by omega) hsz2 ?_; intro A2 c2 w2 ho3 hg3 hat3)
      go_ret
      rw [Hx.out] at ho3
      have hy := Hy.out
      rw [List.length_singleton] at hy
      rw [hy] at ho3
      exact ⟨A2, c2, by rw [← hy]; go_num, ho3, hbel2.grown hg3 hsz2 (fun k hk => (ho1.lt hk).1)⟩
    · have hx := HX.out
      have hy := HN.out
      rw [Lz.ext_great h255] at hx hy
      have hone := own_one wr 255 255 rfl
      have hb1 := hone.bytes
      have ho1 := ho.alloc (.cells #[.int .u8 255] 5)
      have hbel2 : Below w.heap.size w (wr.alloc (.cells #[.int .u8 255] 5)) := hbel.alloc hsz _
      have hsz2 : w.heap.size ≤ (wr.alloc (.cells #[.int .u8 255] 5)).heap.size := by simp; omega
      have h255' : (255 : Int) ≤ (j : Int) := by omega
      have hm : m + 1 ≤ 140737488355328 := by simp at hy; omega
      have Hx := Lib.hid hx
      have Hy := Lib.hid hy
      clear hone ho hx hy HX HN hlen
      go_wp2_with (at_builtin; refine wpList_append_bytes rfl (.tmp 6) (.tmp 7) rfl w.heap.size A' m c' M rfl ho1 _ _ 1 1 [255] rfl rfl hb1 (by omega) hsz2 ?_; intro A2 c2 w2 ho3 hg3 hat3)
      go_roundw
      case rel =>
        refine ⟨j - 255, m + 1, A2, c2, M ++ [255], by omega, ?_, by go_num, ho3, ?_, ?_, Nat.le_trans hsz2 hg3.size, hbel2.grown hg3 hsz2 (fun k hk => (ho1.lt hk).1)⟩
        · exact congrArg (Value.int .i64) (by omega)
        · rw [List.append_assoc, List.singleton_append]; exact Hx.out
        · have := Hy.out; rw [List.length_cons] at this; omega
      case measure => simp [intOf]; omega
end Go.Proofs.YtoebeibmmclhpaaGreat

/- dragnetref05: sum; part. -/
namespace Go.Proofs.YtoebeibmmclhpaaGreat
open Go.RowKit
set_option maxRecDepth 100000
/-- what sum answers -/
def SumPost (w : World) (n : Nat) (r : Option (Nat × List UInt8)) (e : Ending) (w' : World) : Prop :=
  (match r with
    | none => ∃ v, e = .returned (.tuple #[.int .i64 v, .int .i64 (-1)])
    | some (c, t) => e = .returned (.tuple #[.int .i64 (c : Int), .int .i64 ((n - t.length : Nat) : Int)])) ∧ w = w'
set_option maxHeartbeats 1000000 in
theorem sum_any (A : Option Addr) (n cap B i : Nat) (l : List UInt8) (w : World) (hl : l.length = n) (hi : i ≤ n) (hm : n ≤ 281474976710656) (hb : Bytes w B A l) :
    Calls Tryz.prog 97 #[.slice A n cap, .int .i64 (i : Int)] w (SumPost w n (Lz.takeExt 15 (l.drop i))) := by
  generalize hR : Lz.takeExt 15 (l.drop i) = R
  have HR := Lib.hid hR
  have Hl := Lib.hid hl
  clear hR hl
  go_enter Tryz.func97, Tryz.ntmps97
  go_wp2
  go_loopw [6, 7] (fun c s wr => ∃ (j : Nat), i + j ≤ n ∧ s = .int .i64 ((i : Int) + (j : Int)) ∧ c = .int .i64 (15 + 255 * (j : Int)) ∧ Lz.takeExt (15 + 255 * j) (l.drop (i + j)) = R ∧ w = wr) (fun _ s _ => n - (intOf s).toNat)
  case atStart => exact ⟨0, by omega, by go_num, rfl, HR.out, rfl⟩
  case round =>
    clear HR
    obtain ⟨j, hj, rfl, rfl, hR, rfl⟩ := hrel
    have HR := Lib.hid hR; clear hR
    by_cases hlt : i + j < n
    · have hjl : i + j < l.length := by have := Hl.out; omega
      obtain ⟨ad, rfl⟩ := hb.addr hjl
      have hcell := hb.at_ hjl
      have hx := Lz.at_lt l (i + j)
      have hstep : Lz.takeExt (15 + 255 * j) (l.drop (i + j)) = if Lz.at_ l (i + j) = 255 then Lz.takeExt (15 + 255 * (j + 1)) (l.drop (i + (j + 1))) else some (15 + 255 * j + Lz.at_ l (i + j), l.drop (i + (j + 1))) := by
        rw [List.drop_eq_getElem_cons hjl, Lz.takeExt, Lz.at_get hjl, show 15 + 255 * j + 255 = 15 + 255 * (j + 1) from by omega]
        rfl
      rw [HR.out] at hstep
      have Hst := Lib.hid hstep
      clear hstep
      have hlt' : (i : Int) + (j : Int) < (n : Int) := by omega
      have hj0 : (0 : Int) ≤ (i : Int) + (j : Int) := by omega
      have hidx := run_index_at ad n cap (i + j) hlt
      rw [Int.natCast_add] at hidx
      have HB := Lib.hid hb; clear hb
      generalize Lz.at_ l (i + j) = x at *
      generalize ad.add (i + j) = p at *
      by_cases h255 : x = 255
      · have h3 := Hst.out
        rw [if_pos h255] at h3
        replace h3 := Lib.hid h3
        subst h255
        clear Hst
        go_wp2
        go_roundw
        case rel => exact ⟨j + 1, by omega, by go_num, congrArg (Value.int .i64) (by omega), h3.out.symm, trivial⟩
        case measure => simp [intOf]; omega
      · have h3 := Hst.out
        rw [if_neg h255] at h3
        have h255' : ¬ ((x : Int) = 255) := by omega
        replace h3 := Lib.hid h3
        clear Hst h255
        go_wp2
        go_ret2
        rw [h3.out]
        refine ⟨?_, rfl⟩
        show Ending.returned _ = Ending.returned _
        rw [List.length_drop, Hl.out, show n - (n - (i + (j + 1))) = i + (j + 1) from by omega]
        go_num
    · obtain rfl : i + j = n := by omega
      have h3 : R = none := by rw [← HR.out, List.drop_of_length_le (by rw [Hl.out]; exact Nat.le_refl _)]; rfl
      replace h3 := Lib.hid h3
      go_wp2
      go_ret2
      rw [h3.out]
      exact ⟨⟨_, rfl⟩, rfl⟩
end Go.Proofs.YtoebeibmmclhpaaGreat
