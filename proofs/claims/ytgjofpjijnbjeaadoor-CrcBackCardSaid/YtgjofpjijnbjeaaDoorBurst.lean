/- Why a frame of which some of four neighbouring bytes are other ones is told: plain arithmetic. -/
import Derived.Test.YtgjofpjijnbjeaaDoorUniform
namespace Go.Proofs.YtgjofpjijnbjeaaDoor
open Go.RowKit

namespace Plain
theorem runs_xor (r d : Nat) (l : List UInt8) : runs (r ^^^ d) l = runs r l ^^^ steps (8 * l.length) d := by
  induction l generalizing r d with
  | nil => rfl
  | cons b l ih =>
    show runs (steps 8 ((r ^^^ d) ^^^ b.toNat)) l = runs (steps 8 (r ^^^ b.toNat)) l ^^^ _
    rw [Nat.xor_assoc, Nat.xor_comm d, ← Nat.xor_assoc, steps_xor, ih, ← steps_add]
    congr 2
    simp
    omega
/-- a byte of a list is another one -/
theorem runs_flip (r : Nat) (a c : List UInt8) (b x : UInt8) : runs r (a ++ (b ^^^ x) :: c) = runs r (a ++ b :: c) ^^^ steps (8 * (c.length + 1)) x.toNat := by
  rw [runs_append, runs_append]
  show runs (steps 8 (runs r a ^^^ (b ^^^ x).toNat)) c = runs (steps 8 (runs r a ^^^ b.toNat)) c ^^^ _
  rw [UInt8.toNat_xor, ← Nat.xor_assoc, steps_xor, runs_xor, ← steps_add]
  congr 2
  omega
theorem steps_shift (m k x : Nat) (h : k ≤ m) : steps (8 * (m - k)) x = steps (8 * m) (x * 2 ^ (8 * k)) := by
  rw [show 8 * m = 8 * k + 8 * (m - k) from by omega, steps_add, steps_mul]
theorem xor_sum (i a b : Nat) (hb : b < 2 ^ i) : b ^^^ a * 2 ^ i = b + a * 2 ^ i := by
  have hd : (b ^^^ a * 2 ^ i) / 2 ^ i = b / 2 ^ i ^^^ (a * 2 ^ i) / 2 ^ i := Nat.xor_div_two_pow
  have hm : (b ^^^ a * 2 ^ i) % 2 ^ i = b % 2 ^ i ^^^ (a * 2 ^ i) % 2 ^ i := Nat.xor_mod_two_pow
  rw [Nat.div_eq_of_lt hb, Nat.zero_xor, Nat.mul_div_cancel _ (Nat.two_pow_pos i)] at hd
  rw [Nat.mod_eq_of_lt hb, Nat.mul_mod_left, Nat.xor_zero] at hm
  have := Nat.div_add_mod (b ^^^ a * 2 ^ i) (2 ^ i)
  rw [hd, hm, Nat.mul_comm] at this
  omega
theorem xors (a b c d : Nat) (ha : a < 256) (hb : b < 256) (hc : c < 256) : ((a ^^^ b * 2 ^ 8) ^^^ c * 2 ^ 16) ^^^ d * 2 ^ 24 = a + b * 256 + c * 65536 + d * 16777216 := by
  rw [xor_sum 8 b a (by omega), xor_sum 16 c (a + b * 2 ^ 8) (by omega), xor_sum 24 d (a + b * 2 ^ 8 + c * 2 ^ 16) (by omega)]
theorem runs_four (r : Nat) (a b c d : UInt8) : runs r [a, b, c, d] = steps 32 (r ^^^ (a.toNat + b.toNat * 256 + c.toNat * 65536 + d.toNat * 16777216)) := by
  rw [← xors _ _ _ _ (byte_lt a) (byte_lt b) (byte_lt c), ← Nat.xor_assoc, ← Nat.xor_assoc, ← Nat.xor_assoc]
  show steps 8 (steps 8 (steps 8 (steps 8 (r ^^^ a.toNat) ^^^ b.toNat) ^^^ c.toNat) ^^^ d.toNat) = _
  rw [show 32 = 8 + 24 from rfl, steps_add, steps_xor 8 _ (d.toNat * 2 ^ 24), steps_xor 8 _ (c.toNat * 2 ^ 16), steps_xor 8 _ (b.toNat * 2 ^ 8), steps_mul 8,
    show c.toNat * 2 ^ 16 = c.toNat * 2 ^ 8 * 2 ^ 8 from by omega, steps_mul 8, show d.toNat * 2 ^ 24 = d.toNat * 2 ^ 16 * 2 ^ 8 from by omega, steps_mul 8]
  rw [show 24 = 8 + 16 from rfl, steps_add, steps_xor 8 _ (d.toNat * 2 ^ 16), steps_xor 8 _ (c.toNat * 2 ^ 8), steps_mul 8, show d.toNat * 2 ^ 16 = d.toNat * 2 ^ 8 * 2 ^ 8 from by omega, steps_mul 8]
  rw [show 16 = 8 + 8 from rfl, steps_add, steps_xor 8 _ (d.toNat * 2 ^ 8), steps_mul 8]
end Plain

/-- a byte of a list, by its place, is another one -/
def flip (l : List UInt8) (i : Nat) (x : UInt8) : List UInt8 := l.set i (l.getD i 0 ^^^ x)
theorem flip_length (l : List UInt8) (i : Nat) (x : UInt8) : (flip l i x).length = l.length := by simp [flip]
theorem flip_out {l : List UInt8} {i : Nat} (h : l.length ≤ i) (x : UInt8) : flip l i x = l := List.set_eq_of_length_le h
theorem flip_zero (l : List UInt8) (i : Nat) : flip l i 0 = l := by
  unfold flip
  rcases Nat.lt_or_ge i l.length with h | h
  · rw [UInt8.xor_zero, List.getD_eq_getElem?_getD, List.getElem?_eq_getElem h]
    simp
  · exact List.set_eq_of_length_le h
theorem runs_flip (r : Nat) {l : List UInt8} {i : Nat} (h : i < l.length) (x : UInt8) : Plain.runs r (flip l i x) = Plain.runs r l ^^^ Plain.steps (8 * (l.length - i)) x.toNat := by
  have e1 : flip l i x = l.take i ++ (l[i] ^^^ x) :: l.drop (i + 1) := by
    unfold flip
    rw [List.set_eq_take_append_cons_drop, if_pos h, List.getD_eq_getElem?_getD, List.getElem?_eq_getElem h]
    rfl
  have e2 : l = l.take i ++ l[i] :: l.drop (i + 1) := by rw [List.getElem_cons_drop, List.take_append_drop]
  rw [e1, Plain.runs_flip, ← e2, List.length_drop]
  congr 3
  omega

/-- the residue of bytes that end in their checksum -/
theorem residue {l : List UInt8} {k : Nat} (hl : l.length = k + 4) (hs : Plain.sum (l.take k) = word (l.drop k)) : Plain.runs Plain.full l = Plain.steps 32 Plain.full := by
  have hd : (l.drop k).length = 4 := by simp; omega
  match hq : l.drop k, hd with
  | [a, b, c, d], _ =>
    have e : l = l.take k ++ [a, b, c, d] := by rw [← hq, List.take_append_drop]
    have hR := Plain.runs_lt (r := Plain.full) (by unfold Plain.full; omega) (l.take k)
    have hw : word [a, b, c, d] = a.toNat + b.toNat * 256 + c.toNat * 65536 + d.toNat * 16777216 := rfl
    rw [hq] at hs
    rw [e, Plain.runs_append, Plain.runs_four, ← hw, ← hs]
    unfold Plain.sum
    have hx := full_xor _ hR
    unfold Plain.full at hx ⊢
    rw [← hx, ← Nat.xor_assoc, Nat.xor_comm _ 4294967295, Nat.xor_assoc, Nat.xor_self, Nat.xor_zero]

/-! ## the frame itself -/
theorem word_frame {p : List UInt8} (h : p.length ≤ 16777216) : word (frame p) = p.length := by
  unfold frame
  rw [List.append_assoc]
  exact word_four _ (by omega) _
theorem sizeErr_frame {p : List UInt8} (h : p.length ≤ 16777216) : sizeErr (frame p) = 0 := by
  unfold sizeErr
  rw [word_frame h, frame_length, if_neg (by omega), if_neg (by omega), if_neg (by omega)]
theorem head_frame (p : List UInt8) : (frame p).take (p.length + 4) = four p.length ++ p ∧ (frame p).drop (p.length + 4) = four (Plain.sum (four p.length ++ p)) := by
  have hl : (four p.length ++ p).length = p.length + 4 := by simp [four_length]; omega
  unfold frame
  rw [← hl]
  exact ⟨List.take_left, List.drop_left⟩
theorem sumOk_frame {p : List UInt8} (h : p.length ≤ 16777216) : sumOk (frame p) := by
  unfold sumOk
  rw [word_frame h, (head_frame p).1, (head_frame p).2]
  have := word_four (Plain.sum (four p.length ++ p)) (Plain.sum_lt _) []
  rw [List.append_nil] at this
  exact this.symm
theorem pay_frame {p : List UInt8} (h : p.length ≤ 16777216) : pay (frame p) = p := by
  unfold pay
  rw [word_frame h]
  unfold frame
  rw [List.append_assoc]
  have : (four p.length ++ (p ++ four (Plain.sum (four p.length ++ p)))).drop 4 = p ++ four (Plain.sum (four p.length ++ p)) := List.drop_left' (four_length _)
  rw [this]
  exact List.take_left
theorem frameErr_frame {p : List UInt8} (h : p.length ≤ 16777216) : frameErr (frame p) = 0 := by
  unfold frameErr
  rw [sizeErr_frame h, if_neg (by omega), if_pos (sumOk_frame h)]
theorem unwrapErr_frame {p : List UInt8} (h : p.length ≤ 16777216) : unwrapErr (frame p) = 0 := by
  unfold unwrapErr
  rw [sizeErr_frame h, word_frame h, frame_length, if_neg (by omega), if_neg (by omega), if_pos (sumOk_frame h)]

/-! ## four neighbouring bytes -/
/-- k bytes from place i on are other ones -/
def turned (l : List UInt8) (i : Nat) (x : Nat → UInt8) : Nat → List UInt8
  | 0 => l
  | k + 1 => flip (turned l i x k) (i + k) (x k)
theorem turned_length (l : List UInt8) (i : Nat) (x : Nat → UInt8) (k : Nat) : (turned l i x k).length = l.length := by
  induction k with
  | zero => rfl
  | succ k ih => rw [turned, flip_length, ih]
/-- what these bytes come to at their first place -/
def gather (m : Nat) (x : Nat → UInt8) : Nat → Nat
  | 0 => 0
  | k + 1 => if k < m then gather m x k ^^^ (x k).toNat * 2 ^ (8 * k) else gather m x k
theorem runs_turned (r : Nat) (l : List UInt8) (i : Nat) (hi : i < l.length) (x : Nat → UInt8) (k : Nat) :
    Plain.runs r (turned l i x k) = Plain.runs r l ^^^ Plain.steps (8 * (l.length - i)) (gather (l.length - i) x k) := by
  induction k with
  | zero => rw [turned, gather, Plain.steps_zero, Nat.xor_zero]
  | succ k ih =>
    rw [turned, gather]
    by_cases hk : k < l.length - i
    · rw [if_pos hk, runs_flip r (by rw [turned_length]; omega), turned_length, ih, Nat.xor_assoc, Plain.steps_xor, show l.length - (i + k) = l.length - i - k from by omega,
        Plain.steps_shift (l.length - i) k (x k).toNat (by omega)]
    · rw [if_neg hk, flip_out (by rw [turned_length]; omega), ih]
theorem gather_lt (m : Nat) (x : Nat → UInt8) : gather m x 4 < 4294967296 ∧ (gather m x 4 = 0 → ∀ k, k < 4 → k < m → x k = 0) := by
  have hb : ∀ k, (x k).toNat < 256 := fun k => Plain.byte_lt _
  have h0 := hb 0
  have h1 := hb 1
  have h2 := hb 2
  have h3 := hb 3
  have hz : ∀ k, (x k).toNat = 0 → x k = 0 := fun k h => by apply UInt8.toNat_inj.1; rw [h]; rfl
  have g1 : gather m x 1 = if 0 < m then (x 0).toNat else 0 := by simp [gather]
  have g2 : gather m x 2 = if 1 < m then gather m x 1 ^^^ (x 1).toNat * 2 ^ 8 else gather m x 1 := rfl
  have g3 : gather m x 3 = if 2 < m then gather m x 2 ^^^ (x 2).toNat * 2 ^ 16 else gather m x 2 := rfl
  have g4 : gather m x 4 = if 3 < m then gather m x 3 ^^^ (x 3).toNat * 2 ^ 24 else gather m x 3 := rfl
  have s2 := Plain.xor_sum 8 (x 1).toNat (x 0).toNat (by omega)
  have s3 := Plain.xor_sum 16 (x 2).toNat ((x 0).toNat + (x 1).toNat * 2 ^ 8) (by omega)
  have s4 := Plain.xor_sum 24 (x 3).toNat ((x 0).toNat + (x 1).toNat * 2 ^ 8 + (x 2).toNat * 2 ^ 16) (by omega)
  have all : ∀ j, j ≤ 4 → (∀ k, k < j → (x k).toNat = 0) → ∀ k, k < j → x k = 0 := fun j _ h k hk => hz k (h k hk)
  rcases (by omega : m = 0 ∨ m = 1 ∨ m = 2 ∨ m = 3 ∨ 4 ≤ m) with rfl | rfl | rfl | rfl | hm
  · exact ⟨by rw [g4, g3, g2, g1]; simp, fun _ k _ hk => absurd hk (by omega)⟩
  · have e : gather 1 x 4 = (x 0).toNat := by rw [g4, g3, g2, g1]; simp
    rw [e]
    exact ⟨by omega, fun h k _ hk => by obtain rfl : k = 0 := by omega
                                        exact hz 0 h⟩
  · have e : gather 2 x 4 = (x 0).toNat + (x 1).toNat * 2 ^ 8 := by rw [g4, g3, g2, g1, ← s2]; simp
    rw [e]
    refine ⟨by omega, fun h k _ hk => hz k ?_⟩
    rcases (by omega : k = 0 ∨ k = 1) with rfl | rfl <;> omega
  · have e : gather 3 x 4 = (x 0).toNat + (x 1).toNat * 2 ^ 8 + (x 2).toNat * 2 ^ 16 := by rw [g4, g3, g2, g1, ← s3, ← s2]; simp
    rw [e]
    refine ⟨by omega, fun h k _ hk => hz k ?_⟩
    rcases (by omega : k = 0 ∨ k = 1 ∨ k = 2) with rfl | rfl | rfl <;> omega
  · have e : gather m x 4 = (x 0).toNat + (x 1).toNat * 2 ^ 8 + (x 2).toNat * 2 ^ 16 + (x 3).toNat * 2 ^ 24 := by
      rw [g4, g3, g2, g1, if_pos (by omega), if_pos (by omega), if_pos (by omega), if_pos (by omega), ← s4, ← s3, ← s2]
    rw [e]
    refine ⟨by omega, fun h k hk _ => hz k ?_⟩
    rcases (by omega : k = 0 ∨ k = 1 ∨ k = 2 ∨ k = 3) with rfl | rfl | rfl | rfl <;> omega
theorem turned_same {l : List UInt8} {i : Nat} {x : Nat → UInt8} (j : Nat) (h : ∀ k, k < j → k < l.length - i → x k = 0) : turned l i x j = l := by
  induction j with
  | zero => rfl
  | succ j ih =>
    rw [turned, ih fun k hk => h k (by omega)]
    by_cases hj : j < l.length - i
    · rw [h j (by omega) hj, flip_zero]
    · exact flip_out (by omega) _
/-- a frame of which some of four neighbouring bytes are other ones isn't unwrapped -/
theorem burst {p : List UInt8} (h : p.length ≤ 16777216) {i : Nat} (hi : i < (frame p).length) (x : Nat → UInt8) (hne : turned (frame p) i x 4 ≠ frame p) : unwrapErr (turned (frame p) i x 4) ≠ 0 := by
  intro h0
  obtain ⟨_, h2, h3⟩ := unwrapErr_zero h0
  have hr1 := residue (l := turned (frame p) i x 4) (k := word (turned (frame p) i x 4) + 4) (by omega) h3
  have hs := sumOk_frame h
  have hr2 := residue (l := frame p) (k := word (frame p) + 4) (by rw [word_frame h, frame_length]) hs
  rw [runs_turned _ _ _ hi, hr2] at hr1
  have hz : Plain.steps (8 * ((frame p).length - i)) (gather ((frame p).length - i) x 4) = 0 := by
    have := congrArg (Plain.steps 32 Plain.full ^^^ ·) hr1
    simp only [← Nat.xor_assoc, Nat.xor_self, Nat.zero_xor] at this
    exact this
  obtain ⟨g1, g2⟩ := gather_lt ((frame p).length - i) x
  exact hne (turned_same 4 (g2 (Plain.steps_eq_zero g1 _ hz)))
end Go.Proofs.YtgjofpjijnbjeaaDoor
