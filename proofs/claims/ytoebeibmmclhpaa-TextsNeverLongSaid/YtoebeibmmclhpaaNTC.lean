/- Texts of several layers, one behind the other: Bits BitsMore Pfor PforList NumsB NumsZ BitsFns PforFns BitsNum BitsPack PforEnc PforLow Keeps PforBest PforBlock Lens. -/
import Derived.Test.YtoebeibmmclhpaaNTA
import Derived.Test.YtoebeibmmclhpaaNTB
import Derived.Deep.OwnRows
import Derived.Deep.QuietTactic
import Derived.BigQuiet
import Derived.RegionTactic
import Derived.ChangeAlike
import Derived.Laws.BitsAllLaws
import Derived.Laws.Small
import Derived.RangeFuncNested
import Derived.RangeFuncBound
import Derived.Deep.RegionHeld3
import Derived.Deep.RegionLaw
import Derived.RangeFuncCalls
import Derived.RangeFuncLeaves
import Derived.RangeFuncBox
import Derived.Shelf.Abstract
import Derived.Shelf.RegionOpen
import Derived.WalkKit
import Derived.OwnWalkIn
import Derived.TacticsInMore
import Derived.LoopNIn
import Derived.LoopIn
/- Numbers of few bits side by side, on natural numbers: plain arithmetic, no program. A list of numbers by a width is ONE number, lowest first; packed it is that number's bytes. -/
namespace Go.Proofs.Ytoebeibmmclhpaa.Bits
/-- numbers side by side, as one number -/
def cat (w : Nat) : List UInt64 → Nat
  | [] => 0
  | x :: r => x.toNat + 2 ^ w * cat w r
/-- how many bytes n numbers have -/
def size (n w : Nat) : Nat := (n * w + 7) / 8
/-- are all below 2^w? -/
def Fit (w : Nat) (l : List UInt64) : Prop := ∀ x ∈ l, x.toNat < 2 ^ w
/-- n numbers of the width w out of one -/
def parts (n w N : Nat) : List UInt64 := (List.range n).map fun i => UInt64.ofNat (N / 2 ^ (i * w) % 2 ^ w)
/-- the bytes of packed numbers -/
def packed (w : Nat) (l : List UInt64) : List UInt8 := Num.le (size l.length w) (cat w l)
theorem u64_lt (x : UInt64) : x.toNat < 18446744073709551616 := x.toNat_lt
theorem toNat_ofNat {n : Nat} (h : n < 18446744073709551616) : (UInt64.ofNat n).toNat = n := by
  rw [UInt64.toNat_ofNat']
  omega
theorem pow_pos (k : Nat) : 0 < 2 ^ k := Nat.two_pow_pos k
theorem pow_le64 {w : Nat} (hw : w ≤ 64) : (2 : Nat) ^ w ≤ 18446744073709551616 := Nat.le_trans (Nat.pow_le_pow_right (by omega) hw) (by decide)
theorem pow256 (k : Nat) : (256 : Nat) ^ k = 2 ^ (8 * k) := by rw [Nat.pow_mul]
theorem Fit.nil (w : Nat) : Fit w [] := fun _ h => by cases h
theorem Fit.head {w : Nat} {x : UInt64} {r : List UInt64} (h : Fit w (x :: r)) : x.toNat < 2 ^ w := h x (List.mem_cons_self ..)
theorem Fit.tail {w : Nat} {x : UInt64} {r : List UInt64} (h : Fit w (x :: r)) : Fit w r := fun y hy => h y (List.mem_cons_of_mem _ hy)
theorem Fit.get {w : Nat} {l : List UInt64} (h : Fit w l) {i : Nat} (hi : i < l.length) : l[i].toNat < 2 ^ w := h _ (List.getElem_mem hi)
theorem Fit.take {w : Nat} {l : List UInt64} (h : Fit w l) (k : Nat) : Fit w (l.take k) := fun x hx => h x (List.mem_of_mem_take hx)
theorem cat_lt {w : Nat} {l : List UInt64} (h : Fit w l) : cat w l < 2 ^ (l.length * w) := by
  induction l with
  | nil => simp [cat]
  | cons x r ih =>
    have h1 := h.head
    have h2 := ih h.tail
    rw [cat, List.length_cons, Nat.succ_mul, Nat.add_comm (r.length * w), Nat.pow_add]
    have h3 : 2 ^ w * (cat w r + 1) ≤ 2 ^ w * 2 ^ (r.length * w) := Nat.mul_le_mul_left _ h2
    rw [Nat.mul_add] at h3
    omega
theorem cat_snoc (w : Nat) (l : List UInt64) (x : UInt64) : cat w (l ++ [x]) = cat w l + 2 ^ (l.length * w) * x.toNat := by
  induction l with
  | nil => simp [cat]
  | cons y r ih =>
    rw [List.cons_append, cat, ih, cat, List.length_cons, Nat.succ_mul, Nat.add_comm (r.length * w), Nat.pow_add, Nat.mul_add, Nat.mul_assoc]
    omega
/-- room for all bits -/
theorem pow_size (n w : Nat) : (2 : Nat) ^ (n * w) ≤ 256 ^ size n w := by
  rw [pow256]
  apply Nat.pow_le_pow_right (by omega)
  unfold size
  omega
theorem packed_length (w : Nat) (l : List UInt64) : (packed w l).length = size l.length w := Num.le_length _ _
/-- of bytes that come to less than 2^(8j + m) byte j is below 2^m -/
theorem val_small {b : List UInt8} {j m : Nat} (hj : j < b.length) (h : Num.val b < 2 ^ (8 * j + m)) : b[j].toNat < 2 ^ m := by
  induction b generalizing j with
  | nil => simp at hj
  | cons x r ih =>
    cases j with
    | zero =>
      simp only [List.getElem_cons_zero]
      rw [Num.val, Nat.mul_zero, Nat.zero_add] at h
      omega
    | succ j =>
      simp only [List.getElem_cons_succ]
      apply ih (by simpa using hj)
      rw [Num.val, show 8 * (j + 1) + m = 8 + (8 * j + m) from by omega, Nat.pow_add 2 8] at h
      omega
theorem val_zeros (n : Nat) : Num.val (List.replicate n 0) = 0 := by
  induction n with
  | zero => rfl
  | succ n ih => rw [List.replicate_succ, Num.val, ih]; rfl
end Go.Proofs.Ytoebeibmmclhpaa.Bits

/- More of numbers of few bits, on natural numbers: the width of a list; what a byte gets and gives that holds some bits of a number; what Pack and Unpack answer. -/
namespace Go.Proofs.Ytoebeibmmclhpaa.Bits
/-- every bit that any of the numbers has -/
def orAll (l : List UInt64) : Nat := l.foldl (fun a x => a ||| x.toNat) 0
theorem orAll_snoc (l : List UInt64) (x : UInt64) : orAll (l ++ [x]) = orAll l ||| x.toNat := by simp [orAll]
theorem or_lt_iff {a b w : Nat} : a ||| b < 2 ^ w ↔ a < 2 ^ w ∧ b < 2 ^ w :=
  ⟨fun h => ⟨Nat.lt_of_le_of_lt Nat.left_le_or h, Nat.lt_of_le_of_lt Nat.right_le_or h⟩, fun h => Nat.or_lt_two_pow h.1 h.2⟩
theorem orFold_lt {w : Nat} (l : List UInt64) (a : Nat) : l.foldl (fun a x => a ||| x.toNat) a < 2 ^ w ↔ a < 2 ^ w ∧ Fit w l := by
  induction l generalizing a with
  | nil => exact ⟨fun h => ⟨h, Fit.nil w⟩, fun h => h.1⟩
  | cons x r ih =>
    rw [List.foldl_cons, ih, or_lt_iff]
    constructor
    · rintro ⟨⟨h1, h2⟩, h3⟩
      refine ⟨h1, fun y hy => ?_⟩
      rcases List.mem_cons.1 hy with rfl | hy
      · exact h2
      · exact h3 y hy
    · rintro ⟨h1, h2⟩
      exact ⟨⟨h1, h2.head⟩, h2.tail⟩
theorem orAll_lt_iff {w : Nat} {l : List UInt64} : orAll l < 2 ^ w ↔ Fit w l := by
  unfold orAll
  rw [orFold_lt]
  exact ⟨fun h => h.2, fun h => ⟨pow_pos w, h⟩⟩
theorem fit64 (l : List UInt64) : Fit 64 l := fun x _ => x.toNat_lt
theorem orAll_lt (l : List UInt64) : orAll l < 18446744073709551616 := orAll_lt_iff.2 (fit64 l)
theorem Fit.mono {v w : Nat} {l : List UInt64} (h : Fit v l) (hw : v ≤ w) : Fit w l := fun x hx => Nat.lt_of_lt_of_le (h x hx) (Nat.pow_le_pow_right (by omega) hw)
theorem lt_bitLen {v : Nat} (hv : v < 18446744073709551616) : v < 2 ^ Lib.bitLen v := by
  induction v using Nat.strongRecOn with
  | ind v ih =>
    rcases Nat.eq_zero_or_pos v with h0 | h0
    · subst h0; exact pow_pos _
    · rw [Lib.bitLen_half v (by omega) (by omega), Nat.add_comm, Nat.pow_succ]
      have := ih (v / 2) (by omega) (by omega)
      omega
theorem bitLen_le_iff {v w : Nat} (hv : v < 18446744073709551616) (hw : w ≤ 64) : Lib.bitLen v ≤ w ↔ v < 2 ^ w :=
  ⟨fun h => Nat.lt_of_lt_of_le (lt_bitLen hv) (Nat.pow_le_pow_right (by omega) h), fun h => Lib.bitLen_le v w hw h⟩
/-- the least width -/
def width (l : List UInt64) : Nat := Lib.bitLen (orAll l)
theorem width_le64 (l : List UInt64) : width l ≤ 64 := Lib.bitLen_le _ 64 (Nat.le_refl _) (orAll_lt l)
theorem width_le_iff {w : Nat} (l : List UInt64) (hw : w ≤ 64) : width l ≤ w ↔ Fit w l := by
  unfold width
  rw [bitLen_le_iff (orAll_lt l) hw, orAll_lt_iff]
theorem fit_width (l : List UInt64) : Fit (width l) l := (width_le_iff l (width_le64 l)).1 (Nat.le_refl _)
/-- a byte whose bits from s on are 0 gets the lowest 8 - s bits of a number -/
theorem put_byte {b v s : Nat} (hs : s < 8) (hb : b < 2 ^ s) : b ||| (v % 256 * 2 ^ s) % 256 = b + (v % 2 ^ (8 - s)) * 2 ^ s := by
  have e : (256 : Nat) = 2 ^ s * 2 ^ (8 - s) := by rw [← Nat.pow_add, show s + (8 - s) = 8 from by omega]
  have h1 : (v % 256 * 2 ^ s) % 256 = (v % 2 ^ (8 - s)) * 2 ^ s := by
    rw [Nat.mul_comm (v % 256)]
    conv => lhs; rhs; rw [e]
    rw [Nat.mul_mod_mul_left, Nat.mul_comm]
    congr 1
    rw [e, Nat.mul_comm (2 ^ s), Nat.mod_mul_right_mod]
  rw [h1, Nat.or_comm, Nat.mul_comm, ← Nat.two_pow_add_eq_or_of_lt hb]
  omega
theorem put_byte_lt {b v s : Nat} (hs : s < 8) (hb : b < 2 ^ s) : b + (v % 2 ^ (8 - s)) * 2 ^ s < 256 := by
  have e : (256 : Nat) = 2 ^ (8 - s) * 2 ^ s := by rw [← Nat.pow_add, show 8 - s + s = 8 from by omega]
  have h1 : v % 2 ^ (8 - s) + 1 ≤ 2 ^ (8 - s) := Nat.mod_lt _ (pow_pos _)
  have h2 := Nat.mul_le_mul_right (2 ^ s) h1
  rw [← e, Nat.add_mul] at h2
  omega
/-- a byte that gets more -/
theorem val_add {b : List UInt8} {j m : Nat} (hj : j < b.length) (hm : b[j].toNat + m < 256) : Num.val (b.set j (UInt8.ofNat (b[j].toNat + m))) = Num.val b + m * 2 ^ (8 * j) := by
  induction b generalizing j with
  | nil => simp at hj
  | cons x r ih =>
    cases j with
    | zero =>
      simp only [List.getElem_cons_zero] at hm ⊢
      rw [List.set_cons_zero, Num.val, Num.val, Num.toNat_ofNat, Nat.mod_eq_of_lt hm, Nat.mul_zero, Nat.pow_zero, Nat.mul_one]
      omega
    | succ j =>
      simp only [List.getElem_cons_succ] at hm ⊢
      rw [List.set_cons_succ, Num.val, ih (by simpa using hj) hm, Num.val, show 8 * (j + 1) = 8 + 8 * j from by omega, Nat.pow_add 2 8, show (2 : Nat) ^ 8 = 256 from rfl, Nat.mul_add, Nat.mul_left_comm m 256]
      omega
/-- ONE STEP of a number into its bytes: byte (8j + s) / 8 gets what it has room for -/
theorem val_put {b : List UInt8} {j s v : Nat} (hj : j < b.length) (hs : s < 8) (hb : Num.val b < 2 ^ (8 * j + s)) :
    Num.val (b.set j (UInt8.ofNat (b[j].toNat ||| (v % 256 * 2 ^ s) % 256))) + (v / 2 ^ (8 - s)) * 2 ^ (8 * j + 8) = Num.val b + v * 2 ^ (8 * j + s) ∧
      Num.val (b.set j (UInt8.ofNat (b[j].toNat ||| (v % 256 * 2 ^ s) % 256))) < 2 ^ (8 * j + 8) := by
  have hbj : b[j].toNat < 2 ^ s := val_small hj hb
  have hlt := put_byte_lt (v := v) hs hbj
  rw [put_byte hs hbj, val_add hj hlt]
  have e8 : (2 : Nat) ^ (8 * j + 8) = 2 ^ (8 - s) * 2 ^ (8 * j + s) := by rw [← Nat.pow_add, show 8 - s + (8 * j + s) = 8 * j + 8 from by omega]
  have es : (v % 2 ^ (8 - s)) * 2 ^ s * 2 ^ (8 * j) = (v % 2 ^ (8 - s)) * 2 ^ (8 * j + s) := by rw [Nat.mul_assoc, ← Nat.pow_add, Nat.add_comm s]
  rw [es, e8]
  have hP := pow_pos (8 * j + s)
  have hv : (v / 2 ^ (8 - s)) * (2 ^ (8 - s) * 2 ^ (8 * j + s)) + (v % 2 ^ (8 - s)) * 2 ^ (8 * j + s) = v * 2 ^ (8 * j + s) := by
    rw [← Nat.mul_assoc, ← Nat.add_mul]
    congr 1
    rw [Nat.mul_comm]
    exact Nat.div_add_mod v (2 ^ (8 - s))
  have h1 : v % 2 ^ (8 - s) + 1 ≤ 2 ^ (8 - s) := Nat.mod_lt _ (pow_pos _)
  have h2 := Nat.mul_le_mul_right (2 ^ (8 * j + s)) h1
  rw [Nat.add_mul] at h2
  generalize 2 ^ (8 * j + s) = P at *
  constructor <;> omega
/-- the mask -/
theorem and_low (Y w : Nat) : Y &&& (2 ^ w - 1) = Y % 2 ^ w := Nat.and_two_pow_sub_one_eq_mod Y w
/-- what Pack answers: the bytes, and the error -/
def pack (l : List UInt64) (w : Int) : List UInt8 × Nat :=
  if w < 0 ∨ 64 < w then ([], 1) else if width l ≤ w.toNat then (packed w.toNat l, 0) else ([], 7)
/-- what Unpack answers: the numbers, and the error -/
def unpack (b : List UInt8) (n w : Int) : List UInt64 × Nat :=
  if w < 0 ∨ 64 < w ∨ n < 0 ∨ 4096 < n then ([], 1) else if b.length < size n.toNat w.toNat then ([], 3)
  else if size n.toNat w.toNat < b.length ∨ 2 ^ (n.toNat * w.toNat) ≤ Num.val b then ([], 2) else (parts n.toNat w.toNat (Num.val b), 0)
theorem pack_ok {l : List UInt64} {w : Nat} (hw : w ≤ 64) (h : Fit w l) : pack l (w : Int) = (packed w l, 0) := by
  unfold pack
  rw [if_neg (by omega), Int.toNat_natCast, if_pos ((width_le_iff l hw).2 h)]
theorem pack_range {l : List UInt64} {w : Nat} (hw : w ≤ 64) (h : ¬ Fit w l) : pack l (w : Int) = ([], 7) := by
  unfold pack
  rw [if_neg (by omega), Int.toNat_natCast, if_neg (fun h' => h ((width_le_iff l hw).1 h'))]
end Go.Proofs.Ytoebeibmmclhpaa.Bits

/- Blocks of numbers near one another, on lists: plain arithmetic, no program. -/
namespace Go.Proofs.Ytoebeibmmclhpaa.Pfor
/-- the least of a and the numbers of l -/
def leastOf (a : Nat) (l : List UInt64) : Nat := l.foldl (fun m x => min m x.toNat) a
/-- the least number of a list -/
def base : List UInt64 → Nat
  | [] => 0
  | x :: r => leastOf x.toNat r
/-- the differences from it -/
def diffs (l : List UInt64) : List UInt64 := l.map fun x => UInt64.ofNat (x.toNat - base l)
/-- the lowest w bits -/
def lows (w : Nat) (ds : List UInt64) : List UInt64 := ds.map fun d => UInt64.ofNat (d.toNat % 2 ^ w)
/-- a difference's exception, if it is one -/
def exc (w i : Nat) (d : UInt64) : List UInt8 := if d.toNat / 2 ^ w = 0 then [] else UInt8.ofNat i :: Num.num (d.toNat / 2 ^ w)
/-- all exceptions, the first index being i -/
def excs (w : Nat) : Nat → List UInt64 → List UInt8
  | _, [] => []
  | i, d :: r => exc w i d ++ excs w (i + 1) r
/-- how many exceptions -/
def cnt (w : Nat) : List UInt64 → Nat
  | [] => 0
  | d :: r => (if d.toNat / 2 ^ w = 0 then 0 else 1) + cnt w r
/-- low bits and exceptions -/
def body (w : Nat) (ds : List UInt64) : List UInt8 := Bits.packed w (lows w ds) ++ excs w 0 ds
def bodySize (w : Nat) (ds : List UInt64) : Nat := Bits.size ds.length w + (excs w 0 ds).length
/-- a block by a width -/
def byW (w : Nat) (l : List UInt64) : List UInt8 := UInt8.ofNat l.length :: (Num.num (base l) ++ (UInt8.ofNat w :: UInt8.ofNat (cnt w (diffs l)) :: body w (diffs l)))
/-- where f is least, the first such place up to n -/
def best (f : Nat → Nat) : Nat → Nat
  | 0 => 0
  | k + 1 => if f (k + 1) < f (best f k) then k + 1 else best f k
/-- a block's width -/
def width (l : List UInt64) : Nat := best (fun w => bodySize w (diffs l)) 64
/-- a block's bytes -/
def block (l : List UInt64) : List UInt8 := byW (width l) l
/-- can it be a block? -/
def Good (l : List UInt64) : Prop := 1 ≤ l.length ∧ l.length ≤ 32
theorem leastOf_le (a : Nat) (l : List UInt64) : leastOf a l ≤ a ∧ ∀ x ∈ l, leastOf a l ≤ x.toNat := by
  induction l generalizing a with
  | nil => exact ⟨Nat.le_refl _, fun _ h => by cases h⟩
  | cons y r ih =>
    have h := ih (min a y.toNat)
    have e : leastOf a (y :: r) = leastOf (min a y.toNat) r := rfl
    rw [e]
    refine ⟨by omega, fun x hx => ?_⟩
    rcases List.mem_cons.1 hx with rfl | hx
    · omega
    · exact h.2 x hx
theorem leastOf_snoc (a : Nat) (l : List UInt64) (x : UInt64) : leastOf a (l ++ [x]) = min (leastOf a l) x.toNat := by simp [leastOf]
theorem leastOf_take_succ (a : Nat) {l : List UInt64} {k : Nat} (hk : k < l.length) : leastOf a (l.take (k + 1)) = min (leastOf a (l.take k)) l[k].toNat := by
  rw [List.take_succ_eq_append_getElem hk, leastOf_snoc]
theorem base_le {l : List UInt64} {x : UInt64} (hx : x ∈ l) : base l ≤ x.toNat := by
  cases l with
  | nil => cases hx
  | cons y r =>
    have h := leastOf_le y.toNat r
    rcases List.mem_cons.1 hx with rfl | hx
    · exact h.1
    · exact h.2 x hx
theorem base_lt (l : List UInt64) : base l < 18446744073709551616 := by
  cases l with
  | nil => decide
  | cons y r => exact Nat.lt_of_le_of_lt (base_le (List.mem_cons_self ..)) y.toNat_lt
theorem diffs_length (l : List UInt64) : (diffs l).length = l.length := by simp [diffs]
theorem lows_length (w : Nat) (l : List UInt64) : (lows w l).length = l.length := by simp [lows]
theorem diffs_get {l : List UInt64} {k : Nat} (hk : k < l.length) : (diffs l)[k]'(by rw [diffs_length]; exact hk) = UInt64.ofNat (l[k].toNat - base l) := by simp [diffs]
theorem lows_get {w : Nat} {l : List UInt64} {k : Nat} (hk : k < l.length) : (lows w l)[k]'(by rw [lows_length]; exact hk) = UInt64.ofNat (l[k].toNat % 2 ^ w) := by simp [lows]
theorem lows_fit {w : Nat} (ds : List UInt64) : Bits.Fit w (lows w ds) := fun x hx => by
  obtain ⟨d, _, rfl⟩ := List.mem_map.1 hx
  have h1 : d.toNat % 2 ^ w < 2 ^ w := Nat.mod_lt _ (Bits.pow_pos w)
  have h2 : d.toNat % 2 ^ w ≤ d.toNat := Nat.mod_le _ _
  rw [Bits.toNat_ofNat (Nat.lt_of_le_of_lt h2 d.toNat_lt)]
  exact h1
theorem excs_snoc (w i : Nat) (l : List UInt64) (d : UInt64) : excs w i (l ++ [d]) = excs w i l ++ exc w (i + l.length) d := by
  induction l generalizing i with
  | nil => simp [excs]
  | cons x r ih => simp only [List.cons_append, excs, ih, List.length_cons, List.append_assoc]; rw [show i + 1 + r.length = i + (r.length + 1) from by omega]
theorem excs_take_succ (w : Nat) {l : List UInt64} {k : Nat} (hk : k < l.length) : excs w 0 (l.take (k + 1)) = excs w 0 (l.take k) ++ exc w k l[k] := by
  rw [List.take_succ_eq_append_getElem hk, excs_snoc, List.length_take, Nat.min_eq_left (by omega), Nat.zero_add]
theorem cnt_snoc (w : Nat) (l : List UInt64) (d : UInt64) : cnt w (l ++ [d]) = cnt w l + if d.toNat / 2 ^ w = 0 then 0 else 1 := by
  induction l with
  | nil => simp [cnt]
  | cons x r ih => rw [List.cons_append, cnt, ih, cnt]; omega
theorem cnt_take_succ (w : Nat) {l : List UInt64} {k : Nat} (hk : k < l.length) : cnt w (l.take (k + 1)) = cnt w (l.take k) + if l[k].toNat / 2 ^ w = 0 then 0 else 1 := by
  rw [List.take_succ_eq_append_getElem hk, cnt_snoc]
theorem cnt_le (w : Nat) (l : List UInt64) : cnt w l ≤ l.length := by
  induction l with
  | nil => exact Nat.le_refl _
  | cons x r ih => rw [cnt, List.length_cons]; split <;> omega
theorem exc_length (w i : Nat) (d : UInt64) : (exc w i d).length = if d.toNat / 2 ^ w = 0 then 0 else 1 + Num.size (d.toNat / 2 ^ w) := by
  unfold exc
  split
  · rfl
  · rw [List.length_cons, Num.num_length]; omega
theorem div_lt (d : UInt64) (w : Nat) : d.toNat / 2 ^ w < 18446744073709551616 := Nat.lt_of_le_of_lt (Nat.div_le_self _ _) d.toNat_lt
theorem exc_length_le (w i : Nat) (d : UInt64) : (exc w i d).length ≤ 10 := by
  rw [exc_length]
  have := Num.size_le9 (div_lt d w)
  split <;> omega
theorem excs_length_le (w i : Nat) (l : List UInt64) : (excs w i l).length ≤ 10 * l.length := by
  induction l generalizing i with
  | nil => simp [excs]
  | cons x r ih =>
    have h1 := exc_length_le w i x
    have h2 := ih (i + 1)
    rw [excs, List.length_append, List.length_cons]
    omega
theorem body_length (w : Nat) (ds : List UInt64) : (body w ds).length = bodySize w ds := by
  rw [body, List.length_append, Bits.packed_length, lows_length, bodySize]
theorem byW_length (w : Nat) (l : List UInt64) : (byW w l).length = 3 + Num.size (base l) + bodySize w (diffs l) := by
  rw [byW, List.length_cons, List.length_append, List.length_cons, List.length_cons, body_length, Num.num_length]
  omega
theorem bodySize_le {w : Nat} {l : List UInt64} (hw : w ≤ 64) (hl : l.length ≤ 32) : bodySize w l ≤ 576 := by
  have h1 := excs_length_le w 0 l
  have h2 : l.length * w ≤ 32 * 64 := Nat.mul_le_mul hl hw
  unfold bodySize Bits.size
  omega
theorem best_le_n (f : Nat → Nat) (n : Nat) : best f n ≤ n := by
  induction n with
  | zero => exact Nat.le_refl _
  | succ n ih => rw [best]; split <;> omega
theorem best_min (f : Nat → Nat) (n : Nat) : ∀ k, k ≤ n → f (best f n) ≤ f k := by
  induction n with
  | zero =>
    intro k hk
    obtain rfl : k = 0 := by omega
    exact Nat.le_refl _
  | succ n ih =>
    intro k hk
    rw [best]
    split
    · rcases Nat.lt_or_ge k (n + 1) with h | h
      · have := ih k (by omega); omega
      · obtain rfl : k = n + 1 := by omega
        exact Nat.le_refl _
    · rcases Nat.lt_or_ge k (n + 1) with h | h
      · exact ih k (by omega)
      · obtain rfl : k = n + 1 := by omega
        omega
theorem best_stop (f : Nat → Nat) (W : Nat) (n : Nat) (hn : W ≤ n) (h : ∀ k, W < k → k ≤ n → f W ≤ f k) : best f n = best f W := by
  induction n with
  | zero =>
    obtain rfl : W = 0 := by omega
    rfl
  | succ n ih =>
    rcases Nat.lt_or_ge n W with hlt | hge
    · obtain rfl : W = n + 1 := by omega
      rfl
    · have e := ih hge (fun k h1 h2 => h k h1 (by omega))
      rw [best, e, if_neg]
      have h1 := best_min f W W (Nat.le_refl _)
      have h2 := h (n + 1) (by omega) (Nat.le_refl _)
      omega
theorem width_le (l : List UInt64) : width l ≤ 64 := best_le_n _ _
theorem excs_fit {w i : Nat} {l : List UInt64} (h : Bits.Fit w l) : excs w i l = [] := by
  induction l generalizing i with
  | nil => rfl
  | cons x r ih =>
    rw [excs, ih h.tail, exc, if_pos (Nat.div_eq_of_lt h.head)]
    rfl
theorem size_mono {n v w : Nat} (h : v ≤ w) : Bits.size n v ≤ Bits.size n w := by
  have := Nat.mul_le_mul_left n h
  unfold Bits.size
  omega
/-- beyond the widest difference nothing is saved -/
theorem width_stop (l : List UInt64) : best (fun w => bodySize w (diffs l)) (Bits.width (diffs l)) = width l := by
  unfold width
  rw [best_stop _ (Bits.width (diffs l)) 64 (Bits.width_le64 _)]
  intro k h1 h2
  have e1 := excs_fit (i := 0) (Bits.fit_width (diffs l))
  have e2 := excs_fit (i := 0) ((Bits.fit_width (diffs l)).mono (Nat.le_of_lt h1))
  have := size_mono (n := (diffs l).length) (Nat.le_of_lt h1)
  unfold bodySize
  rw [e1, e2]
  omega
theorem block_length (l : List UInt64) : (block l).length = 3 + Num.size (base l) + bodySize (width l) (diffs l) := byW_length _ _
theorem block_least (l : List UInt64) {w : Nat} (hw : w ≤ 64) : (block l).length ≤ (byW w l).length := by
  rw [block_length, byW_length]
  have h : bodySize (width l) (diffs l) ≤ bodySize w (diffs l) := best_min (fun w => bodySize w (diffs l)) 64 w hw
  omega
theorem block_length_le {l : List UInt64} (hl : l.length ≤ 32) : (block l).length ≤ 268 := by
  have h1 := block_least l (Nat.le_refl 64)
  rw [byW_length] at h1
  have h2 := Num.size_le9 (base_lt l)
  have e := excs_fit (i := 0) (Bits.fit64 (diffs l))
  unfold bodySize Bits.size at h1
  rw [e, diffs_length, List.length_nil] at h1
  omega
theorem block_pos (l : List UInt64) : 4 ≤ (block l).length := by
  rw [block_length]
  have := Num.size_pos (base l)
  omega
theorem low_toNat (w : Nat) (d : UInt64) : (UInt64.ofNat (d.toNat % 2 ^ w)).toNat = d.toNat % 2 ^ w :=
  Bits.toNat_ofNat (Nat.lt_of_le_of_lt (Nat.mod_le _ _) d.toNat_lt)
/-- The block that bytes begin with: its numbers, its size, its error. -/
noncomputable def takeBlock (b : List UInt8) : List UInt64 × Nat × Nat :=
  open Classical in if h : ∃ l, Good l ∧ block l <+: b then (h.choose, (block h.choose).length, 0) else ([], 0, 2)
end Go.Proofs.Ytoebeibmmclhpaa.Pfor

/- Lists of blocks, on lists: plain. -/
namespace Go.Proofs.Ytoebeibmmclhpaa.Pfor
/-- the blocks of a list, one behind the other -/
def blocks (l : List UInt64) : List UInt8 := if _h : l = [] then [] else block (l.take 32) ++ blocks (l.drop 32)
termination_by l.length
decreasing_by
  have : 0 < l.length := List.length_pos_iff.2 _h
  simp only [List.length_drop]
  omega
theorem blocks_nil : blocks [] = [] := by rw [blocks]; simp
theorem blocks_cons {l : List UInt64} (h : l ≠ []) : blocks l = block (l.take 32) ++ blocks (l.drop 32) := by rw [blocks, dif_neg h]
/-- a list's bytes -/
def list (l : List UInt64) : List UInt8 := Num.num l.length ++ blocks l
/-- The blocks of n numbers that bytes have from at_ on: numbers, where one stands then, error. -/
noncomputable def takeBlocks (b : List UInt8) : Nat → List UInt64 → Nat → List UInt64 × Nat × Nat
  | 0, acc, at_ => (acc, at_, 0)
  | n + 1, acc, at_ => if (takeBlock (b.drop at_)).2.2 = 0 ∧ (takeBlock (b.drop at_)).1.length = min (n + 1) 32 then
      takeBlocks b (n + 1 - 32) (acc ++ (takeBlock (b.drop at_)).1) (at_ + (takeBlock (b.drop at_)).2.1) else ([], 0, 2)
termination_by n => n
decreasing_by omega
/-- the list that bytes begin with, of at most so many numbers -/
noncomputable def takeList (b : List UInt8) (most : Int) : List UInt64 × Nat × Nat :=
  if most < 0 then ([], 0, 1) else
    if (Num.take b).2.2 ≠ 0 then ([], 0, 2) else
      if most < (Num.take b).1 then ([], 0, 5) else takeBlocks b (Num.take b).1 [] (Num.take b).2.1
end Go.Proofs.Ytoebeibmmclhpaa.Pfor

/- Slices of uint64: what they hold, made, and those that come in. -/
namespace Go.Proofs.Ytoebeibmmclhpaa
open Go.ChangeShapes Go.WideShapes Go.ChangeAt Go.RowKit
set_option maxRecDepth 100000
/-- a number as a value -/
def uval (x : UInt64) : Value := .int .u64 (x.toNat : Int)
theorem u64_info : (Try.prog.info? 43).map (fun i => (i.zero, i.size, i.bytes)) = some (some (.int .u64 0), 1, 8) := by kernel_rfl
/-- A slice with address A holds the numbers l, in a block below B. -/
abbrev Nums (w : World) (B : Nat) (A : Option Addr) (l : List UInt64) : Prop := Row uval w B A l
/-- The slice at A, of n numbers, is l, in a block from 'base' on that nothing else holds. -/
abbrev NOwn (w : World) (base : Nat) (A : Option Addr) (n c : Nat) (l : List UInt64) : Prop := ROwn uval 43 w base A n c l
theorem run_make_nums (n : Nat) (hn : n ≤ 1000000) (w : World) :
    (Instr.makeSlice 37 (.int .i64 (n : Int)) (.int .i64 (n : Int))).run Try.prog w = .ok (.slice (some ⟨w.heap.size, 0, none⟩) n n) (w.alloc (.cells (madeCells #[.int .u64 0] n) 43)) :=
  run_make_row' 37 43 (.int .u64 0) 8 Try.underlying37 u64_info rfl .i64 .i64 n (by omega) (by omega) w
theorem own_nums (w : World) (n : Nat) (hn : n ≤ maxLen) : NOwn (w.alloc (.cells (madeCells #[.int .u64 0] n) 43)) w.heap.size (some ⟨w.heap.size, 0, none⟩) n n (List.replicate n 0) := by
  have h := World.ownsRow_lit (e := 43) (size := 1) w (madeCells #[.int .u64 0] n) n (Nat.le_refl _) hn (by rw [size_madeCells]; omega)
  rw [toList_madeCells_one] at h
  unfold NOwn ROwn
  rw [show (List.replicate n (0 : UInt64)).map uval = List.replicate n (.int .u64 0) from by simp [uval]]
  exact h
end Go.Proofs.Ytoebeibmmclhpaa

/- Slices of bytes made full of zeros. -/
namespace Go.Proofs.Ytoebeibmmclhpaa
open Go.ChangeShapes Go.WideShapes Go.ChangeAt Go.RowKit
set_option maxRecDepth 100000
/-- made full of zeros -/
theorem run_make_zeros (n : Nat) (hn : n ≤ 281474976710656) (w : World) :
    (Instr.makeSlice 22 (.int .i64 (n : Int)) (.int .i64 (n : Int))).run Try.prog w = .ok (.slice (some ⟨w.heap.size, 0, none⟩) n n) (w.alloc (.cells (madeCells #[.int .u8 0] n) 5)) :=
  run_make_row' 22 5 (.int .u8 0) 1 Try.underlying22 byte_info rfl .i64 .i64 n (by omega) (by omega) w
theorem own_zeros (w : World) (n : Nat) (hn : n ≤ maxLen) : Own (w.alloc (.cells (madeCells #[.int .u8 0] n) 5)) w.heap.size (some ⟨w.heap.size, 0, none⟩) n n (List.replicate n 0) := by
  have h := World.ownsRow_lit (e := 5) (size := 1) w (madeCells #[.int .u8 0] n) n (Nat.le_refl _) hn (by rw [size_madeCells]; omega)
  rw [toList_madeCells_one] at h
  unfold Own
  rw [show bvals (List.replicate n 0) = List.replicate n (.int .u8 0) from by simp [bvals, bval]]
  exact h
end Go.Proofs.Ytoebeibmmclhpaa

/- bits.isWidth, bits.packedSize, bits.Width, bits.hasUnusedBit; the document's Size and Fits. -/
namespace Go.Proofs.Ytoebeibmmclhpaa
open Go.RowKit
set_option maxRecDepth 100000
theorem isWidth_any (z : Int) (w : World) : Calls Try.prog 62 #[.int .i64 z] w fun e w' => e = .returned (.bool (decide (0 ≤ z ∧ z ≤ 64))) ∧ w = w' := by
  by_cases h1 : 0 ≤ z
  · by_cases h2 : z ≤ 64
    · rw [decide_eq_true ⟨h1, h2⟩]
      go_enter Try.func62, Try.ntmps62
      go_wp2
      go_ret
      exact ⟨rfl, rfl⟩
    · rw [decide_eq_false (fun h => h2 h.2)]
      go_enter Try.func62, Try.ntmps62
      go_wp2
      go_ret
      exact ⟨rfl, rfl⟩
  · rw [decide_eq_false (fun h => h1 h.1)]
    go_enter Try.func62, Try.ntmps62
    go_wp2
    go_ret
    exact ⟨rfl, rfl⟩
theorem packedSize_any (n v : Nat) (w : World) (hp : n * v ≤ 1000000000000000) :
    Calls Try.prog 63 #[.int .i64 (n : Int), .int .i64 (v : Int)] w fun e w' => e = .returned (.int .i64 (Bits.size n v : Int)) ∧ w = w' := by
  have hs : (Bits.size n v : Int) = ((n : Int) * (v : Int) + 7) / 8 := by unfold Bits.size; rw [Int.natCast_ediv, Int.natCast_add, Int.natCast_mul]; rfl
  have hp0 : 0 ≤ (n : Int) * (v : Int) := Int.mul_nonneg (by omega) (by omega)
  have hp1 : (n : Int) * (v : Int) ≤ 1000000000000000 := by rw [← Int.natCast_mul]; omega
  clear hp
  go_enter Try.func63, Try.ntmps63
  go_wp2
  go_ret
  exact ⟨by rw [hs]; rfl, rfl⟩
theorem or_nat {a b : Nat} {x y : Int} (hx : x = (a : Int)) (hy : y = (b : Int)) (ha : a < 18446744073709551616) (hb : b < 18446744073709551616) : bits .or .u64 x y = ((a ||| b : Nat) : Int) := by
  rw [hx, hy, u64_or_nat a b ha hb]
set_option maxHeartbeats 400000 in
theorem width_any (A : Option Addr) (n cap B : Nat) (l : List UInt64) (w : World) (hl : l.length = n) (hn : n ≤ 1000000) (hb : Nums w B A l) :
    Calls Try.prog 53 #[.slice A n cap] w fun e w' => e = .returned (.int .i64 (Bits.width l : Int)) ∧ w = w' := by
  have Hl := Lib.hid hl; clear hl
  have H := Lib.hid (len64_any (Bits.orAll l) w (Bits.orAll_lt l))
  go_enter Try.func53, Try.ntmps53
  go_wp2
  go_loopw [3, 8] (fun s i wr => ∃ (k : Nat) (y : Int), k ≤ n ∧ i = .int .i64 k ∧ s = .int .u64 y ∧ y = (Bits.orAll (l.take k) : Int) ∧ w = wr) (fun _ i _ => n - (intOf i).toNat)
  case atStart => exact ⟨0, 0, by omega, rfl, rfl, rfl, rfl⟩
  case round =>
    obtain ⟨k, y, hk, rfl, rfl, hy, rfl⟩ := hrel
    have Hy := Lib.hid hy; clear hy
    by_cases hlt : k < n
    · have hk' : k < l.length := by have := Hl.out; omega
      obtain ⟨ad, rfl, hlt', hcell⟩ := hb.get hk'
      simp only [uval] at hcell
      obtain ⟨x, hx⟩ : ∃ x : Int, x = (l[k].toNat : Int) := ⟨_, rfl⟩
      have Hor := or_nat Hy.out hx (Bits.orAll_lt _) (Bits.u64_lt _)
      rw [← Bits.orAll_snoc, ← List.take_succ_eq_append_getElem hk'] at Hor
      replace Hor := Lib.hid Hor
      rw [← hx] at hcell
      clear hx
      go_wp2
      go_roundw
      case rel => exact ⟨k + 1, _, by omega, by go_num, rfl, Hor.out, trivial⟩
      case measure => simp [intOf]; omega
    · obtain rfl : k = n := by omega
      have hy := Hy.out
      rw [List.take_of_length_le (by rw [Hl.out]; exact Nat.le_refl _)] at hy
      have H' := H.out
      rw [← hy] at H'
      replace H' := Lib.hid H'
      clear H hy
      go_wp2_with fail
      refine H'.out.mono ?_
      rintro e w1 ⟨rfl, rfl⟩
      go_wp2
      go_ret
      exact ⟨rfl, rfl⟩
end Go.Proofs.Ytoebeibmmclhpaa

/- pfor's small functions: isBlockLength, packedSize, isException, numberSize; slices.Min. -/
namespace Go.Proofs.Ytoebeibmmclhpaa
open Go.RowKit
set_option maxRecDepth 100000
theorem ppackedSize_any (n v : Nat) (w : World) (hp : n * v ≤ 1000000000000000) :
    Calls Try.prog 60 #[.int .i64 (n : Int), .int .i64 (v : Int)] w fun e w' => e = .returned (.int .i64 (Bits.size n v : Int)) ∧ w = w' := by
  have hs : (Bits.size n v : Int) = ((n : Int) * (v : Int) + 7) / 8 := by unfold Bits.size; rw [Int.natCast_ediv, Int.natCast_add, Int.natCast_mul]; rfl
  have hp0 : 0 ≤ (n : Int) * (v : Int) := Int.mul_nonneg (by omega) (by omega)
  have hp1 : (n : Int) * (v : Int) ≤ 1000000000000000 := by rw [← Int.natCast_mul]; omega
  clear hp
  go_enter Try.func60, Try.ntmps60
  go_wp2
  go_ret
  exact ⟨by rw [hs]; rfl, rfl⟩
/-- a number shifted right, as a letter -/
theorem shr_nat {x v : Nat} {z : Int} (hz : z = (x : Int)) : z / 2 ^ v = ((x / 2 ^ v : Nat) : Int) := by rw [hz, Int.natCast_ediv, Int.natCast_pow]; rfl
theorem isException_any (x v : Nat) (z : Int) (w : World) (hz : z = (x : Int)) (hx : x < 18446744073709551616) (hv : v ≤ 64) :
    Calls Try.prog 40 #[.int .u64 z, .int .i64 (v : Int)] w fun e w' => e = .returned (.bool (decide (x / 2 ^ v ≠ 0))) ∧ w = w' := by
  obtain ⟨h0, h1⟩ : 0 ≤ z ∧ z ≤ 18446744073709551615 := ⟨by omega, by omega⟩
  have hd : decide (x / 2 ^ v ≠ 0) = (z / 2 ^ v != 0) := by
    rw [shr_nat hz, Bool.eq_iff_iff, decide_eq_true_iff, bne_iff_ne]
    omega
  rw [hd]
  clear hx hz hd
  go_enter Try.func40, Try.ntmps40
  go_wp2
  go_ret
  exact ⟨rfl, rfl⟩
theorem Bits.width_one {v : Nat} (hv : v < 18446744073709551616) : Bits.size 1 (Bits.width [UInt64.ofNat v]) = Num.width v := by
  unfold Bits.width Bits.orAll Bits.size Num.width
  rw [List.foldl_cons, List.foldl_nil, Bits.toNat_ofNat hv, Nat.zero_or, Nat.one_mul]
theorem nown_lit1 (w : World) (x : UInt64) (z : Int) (h : uval x = .int .u64 z) : NOwn (w.alloc (.cells #[.int .u64 z] 43)) w.heap.size (some ⟨w.heap.size, 0, none⟩) 1 1 [x] := by
  have h1 := ROwn.lit (f := uval) (e := 43) w w.heap.size [x] (Nat.le_refl _) (by simp [maxLen])
  rw [show ([x].map uval).toArray = #[uval x] from rfl, h] at h1
  exact h1
theorem numberSize_any (v : Nat) (z : Int) (w : World) (hz : z = (v : Int)) (hv : v < 18446744073709551616) :
    Calls Try.prog 61 #[.int .u64 z] w fun e w' => e = .returned (.int .i64 (Num.size v : Int)) ∧ Below w.heap.size w w' := by
  obtain ⟨h0, h1⟩ : 0 ≤ z ∧ z ≤ 18446744073709551615 := ⟨by omega, by omega⟩
  by_cases hs : v ≤ 247
  · have hsz : Num.size v = 1 := by unfold Num.size; rw [if_pos hs]
    rw [hsz]
    have hs' : z ≤ 247 := by omega
    clear hz hv hs h1 hsz
    go_enter Try.func61, Try.ntmps61
    go_wp2
    go_ret
    exact ⟨rfl, Below.refl _ _⟩
  · have hsz : Num.size v = 1 + Num.width v := by unfold Num.size; rw [if_neg hs]
    have h8 := Num.width_le8 hv
    have hb : uval (UInt64.ofNat v) = .int .u64 z := by unfold uval; rw [Bits.toNat_ofNat hv, hz]
    have hown := nown_lit1 w (UInt64.ofNat v) z hb
    have hbel : Below w.heap.size w (w.alloc (.cells #[.int .u64 z] 43)) := (Below.refl _ _).alloc (Nat.le_refl _) _
    have H1 := Lib.hid (width_any _ 1 1 _ [UInt64.ofNat v] _ rfl (by omega) hown.row)
    have hw64 := Bits.width_le64 [UInt64.ofNat v]
    have H2 := ppackedSize_any 1 (Bits.width [UInt64.ofNat v]) (w.alloc (.cells #[.int .u64 z] 43)) (by omega)
    rw [Bits.width_one hv] at H2
    replace H2 := Lib.hid H2
    rw [hsz]
    have hs' : ¬ z ≤ 247 := by omega
    clear hz hv hs hsz hb hown
    generalize Bits.width [UInt64.ofNat v] = W at *
    generalize Num.width v = K at *
    go_enter Try.func61, Try.ntmps61
    go_wp2_with fail
    refine H1.out.mono ?_
    rintro e w1 ⟨rfl, rfl⟩
    go_wp2_with fail
    refine H2.out.mono ?_
    rintro e w1 ⟨rfl, rfl⟩
    clear H1 H2
    go_wp2
    go_ret
    exact ⟨by go_num, hbel⟩
set_option maxHeartbeats 400000 in
theorem min_any (A : Option Addr) (n cap B : Nat) (l : List UInt64) (w : World) (hl : l.length = n) (h1 : 1 ≤ n) (hn : n ≤ 1000000) (hb : Nums w B A l) :
    Calls Try.prog 36 #[.slice A n cap] w fun e w' => e = .returned (.int .u64 (Pfor.base l : Int)) ∧ w = w' := by
  rcases l with _ | ⟨x, r⟩
  · simp at hl; omega
  have hl' : r.length + 1 = n := by simpa using hl
  obtain ⟨ad, rfl, hlt', hcell⟩ := hb.get (k := 0) (by simp)
  simp only [uval, List.getElem_cons_zero, Addr.add, if_true] at hcell
  obtain ⟨z0, hz0⟩ : ∃ z0 : Int, z0 = (x.toNat : Int) := ⟨_, rfl⟩
  rw [← hz0] at hcell
  have Hz0 := Lib.hid hz0; clear hz0
  have Hl := Lib.hid hl'; clear hl hl'
  go_enter Try.func36, Try.ntmps36
  go_wp2
  go_loopw [3, 4] (fun s i wr => ∃ (j : Nat) (y : Int), 1 ≤ j ∧ j ≤ n ∧ i = .int .i64 j ∧ s = .int .u64 y ∧ y = (Pfor.leastOf x.toNat (r.take (j - 1)) : Int) ∧ w = wr) (fun _ i _ => n - (intOf i).toNat)
  case atStart => exact ⟨1, z0, by omega, by omega, rfl, rfl, Hz0.out, rfl⟩
  case round =>
    obtain ⟨j, y, hj, hk, rfl, rfl, hy, rfl⟩ := hrel
    have Hy := Lib.hid hy; clear hy
    by_cases hlt : j < n
    · have hk' : j - 1 < r.length := by have := Hl.out; omega
      obtain ⟨ad2, h2, hlt2, hcell2⟩ := hb.get (k := j) (by simp; have := Hl.out; omega)
      cases h2
      simp only [uval] at hcell2
      have e : (x :: r)[j]'(by simp; have := Hl.out; omega) = r[j - 1] := by
        obtain ⟨i, rfl⟩ : ∃ i, j = i + 1 := ⟨j - 1, by omega⟩
        rfl
      rw [e] at hcell2
      obtain ⟨z, hz⟩ : ∃ z : Int, z = (r[j - 1].toNat : Int) := ⟨_, rfl⟩
      rw [← hz] at hcell2
      have Hmin := Lib.hid (Pfor.leastOf_take_succ x.toNat hk')
      have Hz := Lib.hid hz; clear hz e
      go_wp2
      go_roundw
      case rel =>
        refine ⟨j + 1, _, by omega, by omega, by go_num, rfl, ?_, trivial⟩
        have h1 := Hmin.out
        rw [show j - 1 + 1 = j + 1 - 1 from by omega] at h1
        rw [h1, Hy.out, Hz.out]
        split <;> omega
      case measure => simp [intOf]; omega
    · obtain rfl : n = j := by omega
      go_wp2
      go_ret
      refine ⟨?_, rfl⟩
      rw [Hy.out, List.take_of_length_le (by have := Hl.out; omega)]
      rfl
end Go.Proofs.Ytoebeibmmclhpaa

/- bits.putNumber and bits.takeNumber: one number into its bytes, and out of them. -/
namespace Go.Proofs.Ytoebeibmmclhpaa
open Go.RowKit
set_option maxRecDepth 100000
/-- the byte that is stored -/
theorem or_byte {b v s : Nat} {x : Int} (hx : x = (v : Int)) (hb : b < 256) : bits .or .u8 (b : Int) (x % 256 * 2 ^ s % 256) = ((b ||| (v % 256 * 2 ^ s) % 256 : Nat) : Int) := by
  have e : x % 256 * 2 ^ s % 256 = (((v % 256 * 2 ^ s) % 256 : Nat) : Int) := by
    rw [hx, Int.natCast_emod, Int.natCast_mul, Int.natCast_emod, Int.natCast_pow]
    rfl
  rw [e, u8_or_nat b _ hb (Nat.mod_lt _ (by omega))]
set_option maxHeartbeats 1000000 in
theorem putNumber_any (g n c base p v : Nat) (l : List UInt8) (w : World) (hown : Own w base (some ⟨g, 0, none⟩) n c l) (hv : v < 18446744073709551616) (hn : n ≤ 1000000)
    (hlt : Num.val l < 2 ^ p) (hroom : Num.val l + v * 2 ^ p < 256 ^ n) (hp : p ≤ 10000000) :
    Calls Try.prog 64 #[.slice (some ⟨g, 0, none⟩) n c, .int .i64 (p : Int), .int .u64 (v : Int)] w fun e w' =>
      ∃ l', e = .returned (.tuple #[]) ∧ Own w' base (some ⟨g, 0, none⟩) n c l' ∧ Num.val l' = Num.val l + v * 2 ^ p ∧ Below base w w' := by
  have hg := hown.block.1
  obtain ⟨x, hx, h0, h1⟩ : ∃ x : Int, x = (v : Int) ∧ 0 ≤ x ∧ x ≤ 18446744073709551615 := ⟨v, rfl, by omega, by omega⟩
  rw [← hx]
  generalize hT : Num.val l + v * 2 ^ p = T at *
  have HT := Lib.hid hT
  have Hlt := Lib.hid hlt
  have Hroom := Lib.hid hroom
  have Hx := Lib.hid hx
  clear hT hlt hroom hx hv
  go_enter Try.func64, Try.ntmps64
  go_wp2
  go_loopw [1, 2] (fun a y wr => ∃ (q u : Nat) (z : Int) (t : List UInt8), q ≤ 10000000 ∧ a = .int .i64 q ∧ y = .int .u64 z ∧ z = (u : Int) ∧ 0 ≤ z ∧ z ≤ 18446744073709551615 ∧ Own wr base (some ⟨g, 0, none⟩) n c t ∧ Num.val t < 2 ^ q ∧ Num.val t + u * 2 ^ q = T ∧ Below base w wr) (fun _ y _ => (intOf y).toNat)
  case atStart => exact ⟨p, v, x, l, hp, rfl, rfl, Hx.out, h0, h1, hown, Hlt.out, HT.out, Below.refl _ _⟩
  case round =>
    obtain ⟨q, u, z, t, hq, rfl, rfl, hz, hz0, hz1, ho, hval, hsum, hbel⟩ := hrel
    have Hz := Lib.hid hz
    have Hval := Lib.hid hval
    have Hsum := Lib.hid hsum
    clear hz hval hsum
    by_cases hzero : z = 0
    · subst hzero
      go_wp2
      go_end0
      have hz := Hz.out
      have hsum := Hsum.out
      obtain rfl : u = 0 := by omega
      exact ⟨t, rfl, ho, by omega, hbel⟩
    · have hu : 0 < u := by have := Hz.out; omega
      have hq8 : q / 8 < n := by
        have h1 := Hroom.out
        rw [← Hsum.out, Bits.pow256] at h1
        have h2 : 2 ^ q ≤ u * 2 ^ q := Nat.le_mul_of_pos_left _ hu
        have h3 : (2 : Nat) ^ q < 2 ^ (8 * n) := by omega
        have := (Nat.pow_lt_pow_iff_right (by omega)).1 h3
        omega
      have hs8 : q % 8 < 8 := by omega
      have hqe : q = 8 * (q / 8) + q % 8 := by omega
      have hquo : (q : Int) / 8 = ((q / 8 : Nat) : Int) := by omega
      have hrem : (q : Int) % 8 = ((q % 8 : Nat) : Int) := by omega
      have hj : q / 8 < t.length := by rw [ho.len]; exact hq8
      have hput := Bits.val_put (v := u) hj hs8 (by rw [← hqe]; exact Hval.out)
      have hcell := ho.cell hj
      have hfree := ho.free (q / 8)
      have hb256 := Num.byte_lt t[q / 8]
      have hor := or_byte (s := q % 8) Hz.out hb256
      have hst := ho.store (q / 8) (UInt8.ofNat (t[q / 8].toNat ||| (u % 256 * 2 ^ (q % 8)) % 256))
      have hB : t[q / 8].toNat ||| (u % 256 * 2 ^ (q % 8)) % 256 < 256 := Nat.or_lt_two_pow (n := 8) hb256 (Nat.mod_lt _ (show 0 < 256 by omega))
      rw [bval_small hB] at hst
      rw [← hqe] at hput
      have Hst := Lib.hid hst
      have Hput := Lib.hid hput
      have Hbl := Lib.hid (fun u => hbel.setCell (p := ⟨g, q / 8, none⟩) hg u)
      clear hst hput ho hbel
      generalize t.set (q / 8) (UInt8.ofNat (t[q / 8].toNat ||| (u % 256 * 2 ^ (q % 8)) % 256)) = t' at Hst Hput
      generalize t[q / 8].toNat ||| (u % 256 * 2 ^ (q % 8)) % 256 = B at hor Hst hB
      generalize t[q / 8].toNat = b at hor hcell hb256
      clear hj
      have Hqe := Lib.hid hqe
      clear hqe
      generalize q / 8 = j at *
      generalize q % 8 = s at *
      go_wp2_with fail
      go_region
      go_wp2
      go_roundw
      case rel =>
        have hqe := Hqe.out
        have hput := Hput.out
        rw [Hsum.out] at hput
        have hz' : z / 2 ^ (8 - s) = ((u / 2 ^ (8 - s) : Nat) : Int) := by rw [Hz.out, Int.natCast_ediv, Int.natCast_pow]; rfl
        have hle : u / 2 ^ (8 - s) ≤ u := Nat.div_le_self _ _
        have hzu := Hz.out
        rw [hz']
        generalize u / 2 ^ (8 - s) = d at *
        exact ⟨8 * j + 8, d, d, t', by omega, congrArg (Value.int .i64) (by omega), rfl, rfl, by omega, by omega, Hst.out, hput.2, hput.1, (Hbl.out _).drew⟩
      case measure =>
        have hz' : z / 2 ^ (8 - s) = ((u / 2 ^ (8 - s) : Nat) : Int) := by rw [Hz.out, Int.natCast_ediv, Int.natCast_pow]; rfl
        have hlt : u / 2 ^ (8 - s) < u := Nat.div_lt_self hu (Nat.one_lt_two_pow (by omega))
        have hzu := Hz.out
        rw [hz']
        generalize u / 2 ^ (8 - s) = d at *
        simp only [intOf]
        omega
/-- the mask -/
theorem mask {Y v : Nat} {x : Int} (hv : v ≤ 64) (hx : x = (Y : Int)) (hY : Y < 18446744073709551616) : bits .and .u64 x (IntKind.u64.wrap (IntKind.u64.wrap (2 ^ v) - 1)) = ((Y % 2 ^ v : Nat) : Int) := by
  have hp := Bits.pow_pos v
  have hle := Bits.pow_le64 hv
  have e : IntKind.u64.wrap (IntKind.u64.wrap (2 ^ v) - 1) = ((2 ^ v - 1 : Nat) : Int) := by
    have h2 : (2 : Int) ^ v = ((2 ^ v : Nat) : Int) := by rw [Int.natCast_pow]; rfl
    rw [h2, IntKind.wrap_u64, IntKind.wrap_u64]
    generalize 2 ^ v = P at *
    omega
  rw [e, hx, u64_and_nat Y _ hY (by omega), Bits.and_low]
end Go.Proofs.Ytoebeibmmclhpaa

/- bits.Pack. -/
namespace Go.Proofs.Ytoebeibmmclhpaa
open Go.RowKit
set_option maxRecDepth 100000
/-- what Pack leaves: bytes of its own, and the error -/
def PackPost (w : World) (r : List UInt8 × Nat) (e : Ending) (w' : World) : Prop :=
  ∃ A c, e = .returned (.tuple #[.slice A r.1.length c, .int .i64 (r.2 : Int)]) ∧ Own w' w.heap.size A r.1.length c r.1 ∧ Below w.heap.size w w'
theorem Bits.cat_take_succ {v : Nat} {l : List UInt64} {k : Nat} (hk : k < l.length) : Bits.cat v (l.take (k + 1)) = Bits.cat v (l.take k) + l[k].toNat * 2 ^ (k * v) := by
  rw [List.take_succ_eq_append_getElem hk, Bits.cat_snoc, List.length_take, Nat.min_eq_left (by omega), Nat.mul_comm (2 ^ _)]
theorem Bits.cat_take_lt {v : Nat} {l : List UInt64} {k : Nat} (h : Bits.Fit v l) (hk : k ≤ l.length) : Bits.cat v (l.take k) < 2 ^ (k * v) := by
  have := Bits.cat_lt (h.take k)
  rwa [List.length_take, Nat.min_eq_left hk] at this
theorem Bits.size_le {n v : Nat} (hn : n ≤ 65536) (hv : v ≤ 64) : Bits.size n v ≤ 524288 ∧ n * v ≤ 4194304 := by
  have : n * v ≤ 65536 * 64 := Nat.mul_le_mul hn hv
  unfold Bits.size
  omega
set_option maxHeartbeats 1000000 in
theorem pack_any (A : Option Addr) (n cap B : Nat) (z : Int) (l : List UInt64) (w : World) (hl : l.length = n) (hn : n ≤ 65536) (hb : Nums w B A l) (hB : B ≤ w.heap.size) :
    Calls Try.prog 54 #[.slice A n cap, .int .i64 z] w (PackPost w (Bits.pack l z)) := by
  have H1 := isWidth_any z w
  by_cases hw : z < 0 ∨ 64 < z
  · rw [decide_eq_false (by omega)] at H1
    have e : Bits.pack l z = ([], 1) := by unfold Bits.pack; rw [if_pos hw]
    rw [e]
    replace H1 := Lib.hid H1
    clear hb hl hw e
    go_enter Try.func54, Try.ntmps54
    go_wp2_with fail
    refine H1.out.mono ?_
    rintro e w1 ⟨rfl, rfl⟩
    go_wp2
    go_ret2
    exact ⟨none, 0, rfl, own_none _ _, Below.refl _ _⟩
  · rw [decide_eq_true (by omega)] at H1
    obtain ⟨v, rfl⟩ : ∃ v : Nat, z = v := ⟨z.toNat, by omega⟩
    have hv : v ≤ 64 := by omega
    have H2 := width_any A n cap B l w hl (by omega) hb
    have h64 := Bits.width_le64 l
    replace H1 := Lib.hid H1
    by_cases hf : Bits.width l ≤ v
    · have hfit := (Bits.width_le_iff l hv).1 hf
      have e := Bits.pack_ok hv hfit
      rw [e]
      clear e
      generalize Bits.width l = W at *
      replace H2 := Lib.hid H2
      obtain ⟨hS, hnv⟩ := Bits.size_le hn hv
      have H3 := Lib.hid (packedSize_any n v w (by omega))
      have hmk := run_make_zeros (Bits.size n v) (by omega)
      have ho1 := own_zeros w (Bits.size n v) (by simp only [maxLen]; omega)
      have hbel : Below w.heap.size w (w.alloc (.cells (madeCells #[.int .u8 0] (Bits.size n v)) 5)) := (Below.refl _ _).alloc (Nat.le_refl _) _
      have hroom : ∀ k (hk : k < l.length), Bits.cat v (l.take k) + l[k].toNat * 2 ^ (k * v) < 256 ^ Bits.size n v := fun k hk => by
        rw [← Bits.cat_take_succ hk, ← hl]
        refine Nat.lt_of_lt_of_le (Bits.cat_take_lt hfit hk) (Nat.le_trans (Nat.pow_le_pow_right (by omega) (Nat.mul_le_mul_right v hk)) (Bits.pow_size _ _))
      have Hpost : PackPost w (Bits.packed v l, 0) = PackPost w (Num.le (Bits.size n v) (Bits.cat v l), 0) := by rw [Bits.packed, hl]
      rw [Hpost]
      clear Hpost
      generalize Bits.size n v = S at *
      have Hroom := Lib.hid hroom
      have Hl := Lib.hid hl
      have Hfit := Lib.hid hfit
      clear hroom hl hfit hw
      go_enter Try.func54, Try.ntmps54
      go_wp2_with fail
      refine H1.out.mono ?_
      rintro e w1 ⟨rfl, rfl⟩
      go_wp2_with fail
      refine H2.out.mono ?_
      rintro e w1 ⟨rfl, rfl⟩
      go_wp2_with fail
      refine H3.out.mono ?_
      rintro e w1 ⟨rfl, rfl⟩
      clear H1 H2 H3
      go_wp2
      go_loopw [23] (fun i wr => ∃ (k : Nat) (t : List UInt8), k ≤ n ∧ i = .int .i64 k ∧ Own wr w.heap.size (some ⟨w.heap.size, 0, none⟩) S S t ∧ Num.val t = Bits.cat v (l.take k) ∧ Below w.heap.size w wr) (fun i _ => n - (intOf i).toNat)
      case atStart => exact ⟨0, _, by omega, rfl, ho1, by rw [Bits.val_zeros]; rfl, hbel⟩
      case round =>
        clear ho1 hbel
        obtain ⟨k, t, hk, rfl, ho, hval, hbel⟩ := hrel
        have Hval := Lib.hid hval; clear hval
        by_cases hlt : k < n
        · have hk' : k < l.length := by have := Hl.out; omega
          obtain ⟨ad, rfl, hadB, hcell⟩ := (hb.wide hB).below hbel |>.get hk'
          have hkv : k * v ≤ 4194304 := Nat.le_trans (Nat.mul_le_mul_right v hk) hnv
          have hr := Hroom.out k hk'
          rw [← Hval.out] at hr
          have hlt2 : Num.val t < 2 ^ (k * v) := by rw [Hval.out]; exact Bits.cat_take_lt Hfit.out (by omega)
          have HP := putNumber_any w.heap.size S S w.heap.size (k * v) l[k].toNat t wr ho (Bits.u64_lt _) (by omega) hlt2 hr (by omega)
          rw [Hval.out, ← Bits.cat_take_succ hk'] at HP
          simp only [uval] at hcell
          generalize l[k].toNat = x at *
          rw [Int.natCast_mul] at HP
          replace HP := Lib.hid HP
          have hkv0 : 0 ≤ (k : Int) * (v : Int) := Int.mul_nonneg (by omega) (by omega)
          have hkv1 : (k : Int) * (v : Int) ≤ 4194304 := by rw [← Int.natCast_mul]; omega
          clear hr hlt2 hkv
          go_wp2_with fail
          refine HP.out.mono ?_
          rintro e w1 ⟨t', rfl, ho', hval', hbel'⟩
          clear HP
          go_wp2
          go_roundw
          case rel => exact ⟨k + 1, t', by omega, by go_num, ho', hval', hbel.trans hbel'⟩
          case measure => simp [intOf]; omega
        · obtain rfl : k = n := by omega
          go_wp2
          go_ret2
          have hval := Hval.out
          rw [List.take_of_length_le (by rw [Hl.out]; exact Nat.le_refl _)] at hval
          have ht : t = Num.le S (Bits.cat v l) := by rw [← hval, ← ho.len, Num.le_val]
          subst ht
          refine ⟨some ⟨w.heap.size, 0, none⟩, S, ?_, ?_, hbel⟩
          · rw [Num.le_length]; rfl
          · rw [Num.le_length]; exact ho
    · have e := Bits.pack_range hv (fun h => hf ((Bits.width_le_iff l hv).2 h))
      rw [e]
      clear e
      generalize Bits.width l = W at *
      replace H2 := Lib.hid H2
      clear hb hl hw
      go_enter Try.func54, Try.ntmps54
      go_wp2_with fail
      refine H1.out.mono ?_
      rintro e w1 ⟨rfl, rfl⟩
      go_wp2_with fail
      refine H2.out.mono ?_
      rintro e w1 ⟨rfl, rfl⟩
      go_wp2
      go_ret2
      exact ⟨none, 0, rfl, own_none _ _, Below.refl _ _⟩
end Go.Proofs.Ytoebeibmmclhpaa

/- pfor.countExceptions, bodySize, bestWidth, packLowBits. -/
namespace Go.Proofs.Ytoebeibmmclhpaa
open Go.RowKit
set_option maxRecDepth 100000
theorem div_eq_zero_or (d v : Nat) : decide (d / 2 ^ v ≠ 0) = true ∧ d / 2 ^ v ≠ 0 ∨ decide (d / 2 ^ v ≠ 0) = false ∧ d / 2 ^ v = 0 := by
  by_cases h : d / 2 ^ v = 0
  · exact .inr ⟨decide_eq_false (fun hn => hn h), h⟩
  · exact .inl ⟨decide_eq_true h, h⟩
set_option maxHeartbeats 400000 in
theorem countExceptions_any (A : Option Addr) (n cap B v : Nat) (l : List UInt64) (w : World) (hl : l.length = n) (hn : n ≤ 1000000) (hv : v ≤ 64) (hb : Nums w B A l) :
    Calls Try.prog 38 #[.slice A n cap, .int .i64 (v : Int)] w fun e w' => e = .returned (.int .i64 (Pfor.cnt v l : Int)) ∧ w = w' := by
  have Hl := Lib.hid hl; clear hl
  go_enter Try.func38, Try.ntmps38
  go_wp2
  go_loopw [5, 10] (fun s i wr => ∃ (k C : Nat), k ≤ n ∧ i = .int .i64 k ∧ s = .int .i64 C ∧ C ≤ k ∧ C = Pfor.cnt v (l.take k) ∧ w = wr) (fun _ i _ => n - (intOf i).toNat)
  case atStart => exact ⟨0, 0, by omega, rfl, rfl, by omega, rfl, rfl⟩
  case round =>
    obtain ⟨k, C, hk, rfl, rfl, hCk, hC, rfl⟩ := hrel
    have HC := Lib.hid hC; clear hC
    by_cases hlt : k < n
    · have hk' : k < l.length := by have := Hl.out; omega
      obtain ⟨ad, rfl, hlt', hcell⟩ := hb.get hk'
      simp only [uval] at hcell
      obtain ⟨z, hz⟩ : ∃ z : Int, z = (l[k].toNat : Int) := ⟨_, rfl⟩
      have H1 := isException_any l[k].toNat v z w hz (Bits.u64_lt _) hv
      have Hs := Pfor.cnt_take_succ v hk'
      rw [← hz] at hcell
      clear hz
      rcases div_eq_zero_or l[k].toNat v with ⟨hd, h0⟩ | ⟨hd, h0⟩
      · rw [hd] at H1
        rw [if_neg h0] at Hs
        replace H1 := Lib.hid H1
        replace Hs := Lib.hid Hs
        clear hd h0
        go_wp2_with fail
        refine H1.out.mono ?_
        rintro e w1 ⟨rfl, rfl⟩
        clear H1
        go_wp2
        go_roundw
        case rel => exact ⟨k + 1, C + 1, by omega, by go_num, by go_num, by omega, by rw [Hs.out, HC.out], trivial⟩
        case measure => simp [intOf]; omega
      · rw [hd] at H1
        rw [if_pos h0] at Hs
        replace H1 := Lib.hid H1
        replace Hs := Lib.hid Hs
        clear hd h0
        go_wp2_with fail
        refine H1.out.mono ?_
        rintro e w1 ⟨rfl, rfl⟩
        clear H1
        go_wp2
        go_roundw
        case rel => exact ⟨k + 1, C, by omega, by go_num, by go_num, by omega, by rw [Hs.out, HC.out]; rfl, trivial⟩
        case measure => simp [intOf]; omega
    · obtain rfl : k = n := by omega
      go_wp2
      go_ret
      refine ⟨?_, rfl⟩
      rw [HC.out, List.take_of_length_le (by rw [Hl.out]; exact Nat.le_refl _)]
      rfl
set_option maxHeartbeats 400000 in
theorem bodySize_any (A : Option Addr) (n cap B v : Nat) (l : List UInt64) (w : World) (hl : l.length = n) (hn : n ≤ 32) (hv : v ≤ 64) (hb : Nums w B A l) (hB : B ≤ w.heap.size) :
    Calls Try.prog 52 #[.slice A n cap, .int .i64 (v : Int)] w fun e w' => e = .returned (.int .i64 (Pfor.bodySize v l : Int)) ∧ Below w.heap.size w w' := by
  have hb := hb.wide hB
  have hnv : n * v ≤ 32 * 64 := Nat.mul_le_mul hn hv
  have H0 := Lib.hid (ppackedSize_any n v w (by omega))
  have hS : Bits.size n v ≤ 256 := by unfold Bits.size; omega
  have hbs : Pfor.bodySize v l = Bits.size n v + (Pfor.excs v 0 l).length := by unfold Pfor.bodySize; rw [hl]
  rw [hbs]
  have Hl := Lib.hid hl; clear hl hnv hbs
  generalize Bits.size n v = S at *
  go_enter Try.func52, Try.ntmps52
  go_wp2_with fail
  refine H0.out.mono ?_
  rintro e w1 ⟨rfl, rfl⟩
  clear H0
  go_wp2
  go_loopw [5, 14] (fun s i wr => ∃ (k C : Nat), k ≤ n ∧ i = .int .i64 k ∧ s = .int .i64 ((S : Int) + C) ∧ C ≤ 10 * k ∧ C = (Pfor.excs v 0 (l.take k)).length ∧ Below w.heap.size w wr) (fun _ i _ => n - (intOf i).toNat)
  case atStart => exact ⟨0, 0, by omega, rfl, by go_num, by omega, rfl, Below.refl _ _⟩
  case round =>
    obtain ⟨k, C, hk, rfl, rfl, hCk, hC, hbel⟩ := hrel
    have HC := Lib.hid hC; clear hC
    have hbr := hb.below hbel
    by_cases hlt : k < n
    · have hk' : k < l.length := by have := Hl.out; omega
      obtain ⟨ad, rfl, hlt', hcell⟩ := hbr.get hk'
      simp only [uval] at hcell
      obtain ⟨z, hz, hz0, hz1⟩ : ∃ z : Int, z = (l[k].toNat : Int) ∧ 0 ≤ z ∧ z ≤ 18446744073709551615 := ⟨_, rfl, by omega, by have := Bits.u64_lt l[k]; omega⟩
      have H1 := isException_any l[k].toNat v z wr hz (Bits.u64_lt _) hv
      have H2 := fun w' => numberSize_any (l[k].toNat / 2 ^ v) (z / 2 ^ v) w' (shr_nat hz) (Pfor.div_lt _ _)
      have h9 := Num.size_le9 (Pfor.div_lt l[k] v)
      have Hs := congrArg List.length (Pfor.excs_take_succ v hk')
      rw [List.length_append, Pfor.exc_length] at Hs
      rw [← hz] at hcell
      clear hz
      rcases div_eq_zero_or l[k].toNat v with ⟨hd, h0⟩ | ⟨hd, h0⟩
      · rw [hd] at H1
        rw [if_neg h0] at Hs
        replace H1 := Lib.hid H1
        replace H2 := Lib.hid H2
        replace Hs := Lib.hid Hs
        clear hd h0
        generalize Num.size (l[k].toNat / 2 ^ v) = m at *
        go_wp2_with fail
        refine H1.out.mono ?_
        rintro e w1 ⟨rfl, rfl⟩
        clear H1
        go_wp2_with fail
        refine (H2.out _).mono ?_
        rintro e w2 ⟨rfl, hb2⟩
        clear H2
        go_wp2
        go_roundw
        case rel => exact ⟨k + 1, C + (1 + m), by omega, by go_num, by go_num, by omega, by rw [Hs.out, HC.out], hbel.trans (hb2.mono hbel.size)⟩
        case measure => simp [intOf]; omega
      · rw [hd] at H1
        rw [if_pos h0] at Hs
        replace H1 := Lib.hid H1
        replace Hs := Lib.hid Hs
        clear hd h0 H2 h9
        go_wp2_with fail
        refine H1.out.mono ?_
        rintro e w1 ⟨rfl, rfl⟩
        clear H1
        go_wp2
        go_roundw
        case rel => exact ⟨k + 1, C, by omega, by go_num, by go_num, by omega, by rw [Hs.out, HC.out]; rfl, hbel⟩
        case measure => simp [intOf]; omega
    · obtain rfl : k = n := by omega
      go_wp2
      go_ret
      refine ⟨?_, hbel⟩
      rw [HC.out, List.take_of_length_le (by rw [Hl.out]; exact Nat.le_refl _)]
      rfl
end Go.Proofs.Ytoebeibmmclhpaa

/- pfor.packLowBits. -/
namespace Go.Proofs.Ytoebeibmmclhpaa
open Go.RowKit
set_option maxRecDepth 100000
/-- what a made slice holds when k of its cells are stored -/
theorem fill_set {α : Type} {l : List α} {n k : Nat} (z : α) (hl : l.length = n) (hk : k < n) : (l.take k ++ List.replicate (n - k) z).set k (l[k]'(by omega)) = l.take (k + 1) ++ List.replicate (n - (k + 1)) z := by
  have e : List.replicate (n - k) z = z :: List.replicate (n - (k + 1)) z := by rw [show n - k = (n - (k + 1)) + 1 from by omega, List.replicate_succ]
  have hlk : (l.take k).length = k := by simp; omega
  rw [e, List.set_append_right _ _ (by omega), hlk, Nat.sub_self, List.set_cons_zero, List.take_succ_eq_append_getElem (by omega), List.append_assoc]
  rfl
theorem fill_get {α : Type} {l : List α} {n k : Nat} (z : α) (hl : l.length = n) (hk : k < n) : ∃ h : k < (l.take k ++ List.replicate (n - k) z).length, (l.take k ++ List.replicate (n - k) z)[k] = z := by
  have hlk : (l.take k).length = k := by simp; omega
  refine ⟨by simp; omega, ?_⟩
  rw [List.getElem_append_right (by omega), List.getElem_replicate]
set_option maxHeartbeats 1000000 in
theorem packLowBits_any (A : Option Addr) (n cap B v : Nat) (l : List UInt64) (w : World) (hl : l.length = n) (hn : n ≤ 32) (hv : v ≤ 64) (hb : Nums w B A l) (hB : B ≤ w.heap.size) :
    Calls Try.prog 39 #[.slice A n cap, .int .i64 (v : Int)] w fun e w' => ∃ A' c, e = .returned (.slice A' (Bits.packed v (Pfor.lows v l)).length c) ∧
      Own w' w.heap.size A' (Bits.packed v (Pfor.lows v l)).length c (Bits.packed v (Pfor.lows v l)) ∧ Below w.heap.size w w' := by
  have hb := hb.wide hB
  have hmk := run_make_nums n (by omega) w
  have ho0 := own_nums w n (by simp only [maxLen]; omega)
  have hbel0 : Below w.heap.size w (w.alloc (.cells (madeCells #[.int .u64 0] n) 43)) := (Below.refl _ _).alloc (Nat.le_refl _) _
  generalize w.alloc (.cells (madeCells #[.int .u64 0] n) 43) = w0 at *
  have hll : (Pfor.lows v l).length = n := by rw [Pfor.lows_length, hl]
  have H1 := Lib.hid (fun (g c : Nat) (wr : World) (ho : NOwn wr w.heap.size (some ⟨g, 0, none⟩) n c (Pfor.lows v l)) => pack_any (some ⟨g, 0, none⟩) n c wr.heap.size v (Pfor.lows v l) wr hll (by omega) ho.row (Nat.le_refl _))
  rw [Bits.pack_ok hv (Pfor.lows_fit l)] at H1
  have Hll := Lib.hid hll
  have Hl := Lib.hid hl
  clear hll hl
  obtain ⟨g, hg⟩ : ∃ g, g = w.heap.size := ⟨_, rfl⟩
  rw [← hg] at hmk ho0 hbel0 H1 hb ⊢
  have Hg := Lib.hid hg; clear hg
  go_enter Try.func39, Try.ntmps39
  go_wp2
  go_loopw [15] (fun i wr => ∃ (k : Nat), k ≤ n ∧ i = .int .i64 k ∧ NOwn wr g (some ⟨g, 0, none⟩) n n ((Pfor.lows v l).take k ++ List.replicate (n - k) 0) ∧ Below g w wr) (fun i _ => n - (intOf i).toNat)
  case atStart => exact ⟨0, by omega, rfl, by simpa using ho0, hbel0⟩
  case round =>
    clear ho0 hbel0 hmk
    obtain ⟨k, hk, rfl, ho, hbel⟩ := hrel
    have hbr := hb.below hbel
    by_cases hlt : k < n
    · have hk' : k < l.length := by have := Hl.out; omega
      obtain ⟨ad, rfl, hlt', hcell⟩ := hbr.get hk'
      simp only [uval] at hcell
      obtain ⟨hg1, hg2⟩ := fill_get (0 : UInt64) Hll.out hlt
      have hold := ho.cell hg1
      rw [hg2] at hold
      have hold' : wr.cell? ⟨g, k, none⟩ = some (.int .u64 0) := hold
      have hfree := ho.free k
      have hst := ho.store k ((Pfor.lows v l)[k]'(by rw [Hll.out]; exact hlt))
      rw [fill_set (0 : UInt64) Hll.out hlt, Pfor.lows_get hk'] at hst
      obtain ⟨z, hz, hz0, hz1⟩ : ∃ z : Int, z = (l[k].toNat : Int) ∧ 0 ≤ z ∧ z ≤ 18446744073709551615 := ⟨_, rfl, by omega, by have := Bits.u64_lt l[k]; omega⟩
      have hm := mask (Y := l[k].toNat) hv hz (Bits.u64_lt _)
      have hu : uval (UInt64.ofNat (l[k].toNat % 2 ^ v)) = .int .u64 ((l[k].toNat % 2 ^ v : Nat) : Int) := by unfold uval; rw [Pfor.low_toNat]
      rw [hu, ← hm] at hst
      rw [← hz] at hcell
      have Hst := Lib.hid hst
      have Hbl := Lib.hid (hbel.setCell (p := ⟨g, k, none⟩) (Nat.le_refl _) (.int .u64 (bits .and .u64 z (IntKind.u64.wrap (IntKind.u64.wrap (2 ^ v) - 1)))))
      clear hst hu hm hz hold hg1 hg2 ho
      go_wp2
      go_roundw
      case rel => exact ⟨k + 1, by omega, by go_num, Hst.out, Hbl.out⟩
      case measure => simp [intOf]; omega
    · obtain rfl : k = n := by omega
      rw [Nat.sub_self, List.replicate_zero, List.append_nil, List.take_of_length_le (by rw [Hll.out]; exact Nat.le_refl _)] at ho
      have C1 := Lib.hid (H1.out g k wr ho)
      clear H1
      go_wp2_with fail
      refine C1.out.mono ?_
      rintro e w2 ⟨A2, c2, rfl, ho2, hb2⟩
      clear C1
      go_wp2
      go_ret
      rw [Hg.out] at hbel ⊢
      exact ⟨A2, c2, rfl, ho2.low hbel.size, hbel.trans (hb2.mono hbel.size)⟩
end Go.Proofs.Ytoebeibmmclhpaa

/- What makes memory keeps all else. -/
namespace Go.Proofs.Ytoebeibmmclhpaa
open Go.RowKit
theorem KeepsOthers.below {W W' : World} (h : Below W.heap.size W W') : KeepsOthers W W' :=
  ⟨h.size, fun k o hk _ => by rw [h.block k (Array.getElem?_eq_some_iff.1 hk).1]; exact hk⟩
end Go.Proofs.Ytoebeibmmclhpaa

/- pfor.bestWidth. -/
namespace Go.Proofs.Ytoebeibmmclhpaa
open Go.RowKit
set_option maxRecDepth 100000
set_option maxHeartbeats 400000 in
theorem bestWidth_any (A : Option Addr) (n cap B : Nat) (l : List UInt64) (w : World) (hl : l.length = n) (hn : n ≤ 32) (hb : Nums w B A l) (hB : B ≤ w.heap.size) :
    Calls Try.prog 37 #[.slice A n cap] w fun e w' => e = .returned (.int .i64 (Pfor.best (fun v => Pfor.bodySize v l) (Bits.width l) : Int)) ∧ Below w.heap.size w w' := by
  have hb := hb.wide hB
  have H0 := Lib.hid (fun (wr : World) (hbel : Below w.heap.size w wr) => width_any A n cap _ l wr hl (by omega) (hb.below hbel))
  have H1 := Lib.hid (fun (v : Nat) (hv : v ≤ 64) (wr : World) (hbel : Below w.heap.size w wr) => bodySize_any A n cap _ v l wr hl hn hv (hb.below hbel) hbel.size)
  have hW := Bits.width_le64 l
  have hsz := Lib.hid (fun v (hv : v ≤ 64) => Pfor.bodySize_le hv (show l.length ≤ 32 by omega))
  clear hl hb
  generalize Bits.width l = W at *
  have H2 := Lib.hid (H1.out 0 (by omega) w (Below.refl _ _))
  obtain ⟨f, hf⟩ : ∃ f : Nat → Nat, f = fun v => Pfor.bodySize v l := ⟨_, rfl⟩
  have hf' : ∀ v, Pfor.bodySize v l = f v := fun v => by rw [hf]
  rw [← hf]
  simp only [hf'] at H1 H2 hsz
  clear hf hf'
  go_enter Try.func37, Try.ntmps37
  go_wp2_with fail
  refine H2.out.mono ?_
  rintro e w1 ⟨rfl, hb1⟩
  clear H2
  go_wp2
  go_loopw [3, 4, 5] (fun b s i wr => ∃ (j m F : Nat), 1 ≤ j ∧ j ≤ W + 1 ∧ i = .int .i64 j ∧ b = .int .i64 m ∧ m ≤ 64 ∧ s = .int .i64 F ∧ m = Pfor.best f (j - 1) ∧ F = f m ∧ Below w.heap.size w wr) (fun _ _ i _ => 65 - (intOf i).toNat)
  case atStart => exact ⟨1, 0, f 0, by omega, by omega, rfl, rfl, by omega, rfl, rfl, rfl, hb1⟩
  case round =>
    obtain ⟨j, m, F, hj1, hk, rfl, rfl, hm64, rfl, hm, hF, hbel⟩ := hrel
    have hF5 := hsz.out m hm64
    rw [← hF] at hF5
    have Hm := Lib.hid hm; clear hm
    have HF := Lib.hid hF; clear hF
    have C0 := Lib.hid (H0.out wr hbel)
    by_cases hlt : j ≤ W
    · have C1 := H1.out j (by omega) wr hbel
      have hG5 := hsz.out j (by omega)
      obtain ⟨G, hG⟩ : ∃ G, G = f j := ⟨_, rfl⟩
      rw [← hG] at C1
      rw [← hG] at hG5
      replace C1 := Lib.hid C1
      have HG := Lib.hid hG; clear hG
      have hbst : Pfor.best f j = if f j < f (Pfor.best f (j - 1)) then j else Pfor.best f (j - 1) := by
        obtain ⟨i, rfl⟩ : ∃ i, j = i + 1 := ⟨j - 1, by omega⟩
        rfl
      rw [← Hm.out, ← HF.out, ← HG.out] at hbst
      replace hbst := Lib.hid hbst
      by_cases hless : G < F
      · go_wp2_with fail
        refine C0.out.mono ?_
        rintro e w2 ⟨rfl, rfl⟩
        go_wp2_with fail
        refine C1.out.mono ?_
        rintro e w2 ⟨rfl, hb2⟩
        clear C0 C1
        go_wp2
        go_roundw
        case rel => exact ⟨j + 1, j, G, by omega, by omega, by go_num, rfl, by omega, rfl, by rw [Nat.add_sub_cancel, hbst.out, if_pos hless], HG.out, hbel.trans (hb2.mono hbel.size)⟩
        case measure => simp [intOf]; omega
      · go_wp2_with fail
        refine C0.out.mono ?_
        rintro e w2 ⟨rfl, rfl⟩
        go_wp2_with fail
        refine C1.out.mono ?_
        rintro e w2 ⟨rfl, hb2⟩
        clear C0 C1
        go_wp2
        go_roundw
        case rel => exact ⟨j + 1, m, F, by omega, by omega, by go_num, rfl, hm64, rfl, by rw [Nat.add_sub_cancel, hbst.out, if_neg hless], HF.out, hbel.trans (hb2.mono hbel.size)⟩
        case measure => simp [intOf]; omega
    · obtain rfl : j = W + 1 := by omega
      go_wp2_with fail
      refine C0.out.mono ?_
      rintro e w2 ⟨rfl, rfl⟩
      clear C0
      go_wp2
      go_ret
      exact ⟨by rw [Hm.out]; rfl, hbel⟩
end Go.Proofs.Ytoebeibmmclhpaa

/- pfor.encodeBlock: a block's bytes. -/
namespace Go.Proofs.Ytoebeibmmclhpaa
open Go.RowKit
set_option maxRecDepth 100000
/-- a slice at the start of block g is below g + 1 -/
theorem ROwn.rowAt {α : Type} {f : α → Value} {e : TypeId} {w : World} {base g n c : Nat} {l : List α} (h : ROwn f e w base (some ⟨g, 0, none⟩) n c l) : Row f w (g + 1) (some ⟨g, 0, none⟩) l := fun hn => by
  obtain ⟨ad, ha, _, hc⟩ := h.row hn
  cases ha
  exact ⟨_, rfl, Nat.lt_succ_self g, hc⟩
set_option maxHeartbeats 4000000 in
theorem encodeBlock_any (A : Option Addr) (n cap B : Nat) (l : List UInt64) (w : World) (hl : l.length = n) (h1 : 1 ≤ n) (hn : n ≤ 32) (hb : Nums w B A l) (hB : B ≤ w.heap.size) :
    Calls Try.prog 24 #[.slice A n cap] w (MadeIn w.heap.size w (Pfor.block l).length (Pfor.block l)) := by
  have hb := hb.wide hB
  have H0 := min_any A n cap _ l w hl h1 (by omega) hb
  obtain ⟨x, hx, hx0, hx1⟩ : ∃ x : Int, x = (Pfor.base l : Int) ∧ 0 ≤ x ∧ x ≤ 18446744073709551615 := ⟨_, rfl, by omega, by have := Pfor.base_lt l; omega⟩
  rw [← hx] at H0
  replace H0 := Lib.hid H0
  have hmk := run_make_nums n (by omega) w
  have ho0 := own_nums w n (by simp only [maxLen]; omega)
  have hbel0 : Below w.heap.size w (w.alloc (.cells (madeCells #[.int .u64 0] n) 43)) := (Below.refl _ _).alloc (Nat.le_refl _) _
  generalize w.alloc (.cells (madeCells #[.int .u64 0] n) 43) = w0 at *
  have hDl : (Pfor.diffs l).length = n := by rw [Pfor.diffs_length, hl]
  have HDl := Lib.hid hDl
  have Hl := Lib.hid hl
  obtain ⟨g, hg⟩ : ∃ g, g = w.heap.size := ⟨_, rfl⟩
  rw [← hg] at hmk ho0 hbel0 hb ⊢
  have Hg := Lib.hid hg
  have Hx := Lib.hid hx
  clear hDl hl hg hx
  have hW := Pfor.width_le l
  have hC : Pfor.cnt (Pfor.width l) (Pfor.diffs l) ≤ 32 := by have := Pfor.cnt_le (Pfor.width l) (Pfor.diffs l); have := HDl.out; omega
  -- what is called behind the first loop, in any world that keeps the differences
  have H1 := Lib.hid (fun (wr : World) (hD : Nums wr (g + 1) (some ⟨g, 0, none⟩) (Pfor.diffs l)) (hs : g + 1 ≤ wr.heap.size) => bestWidth_any (some ⟨g, 0, none⟩) n n _ (Pfor.diffs l) wr HDl.out hn hD hs)
  rw [Pfor.width_stop] at H1
  have H3 := Lib.hid (fun (wr : World) (hD : Nums wr (g + 1) (some ⟨g, 0, none⟩) (Pfor.diffs l)) => countExceptions_any (some ⟨g, 0, none⟩) n n _ (Pfor.width l) (Pfor.diffs l) wr HDl.out (by omega) hW hD)
  have H4 := Lib.hid (fun (wr : World) (hD : Nums wr (g + 1) (some ⟨g, 0, none⟩) (Pfor.diffs l)) (hs : g + 1 ≤ wr.heap.size) => packLowBits_any (some ⟨g, 0, none⟩) n n _ (Pfor.width l) (Pfor.diffs l) wr HDl.out hn hW hD hs)
  have hfin : Pfor.block l = (([UInt8.ofNat n] ++ Num.num (Pfor.base l)) ++ [UInt8.ofNat (Pfor.width l), UInt8.ofNat (Pfor.cnt (Pfor.width l) (Pfor.diffs l))]) ++ Bits.packed (Pfor.width l) (Pfor.lows (Pfor.width l) (Pfor.diffs l)) ++ Pfor.excs (Pfor.width l) 0 (Pfor.diffs l) := by
    have := Hl.out
    simp only [Pfor.block, Pfor.byW, Pfor.body, this, List.append_assoc, List.cons_append, List.nil_append]
  have hp256 : (Bits.packed (Pfor.width l) (Pfor.lows (Pfor.width l) (Pfor.diffs l))).length ≤ 256 := by
    have h2 : n * Pfor.width l ≤ 32 * 64 := Nat.mul_le_mul hn hW
    rw [Bits.packed_length, Pfor.lows_length, HDl.out]
    unfold Bits.size
    omega
  have hs9 := Num.size_le9 (Pfor.base_lt l)
  have hbv := bval_lt (show n < 256 by omega)
  have hbw := bval_lt (show Pfor.width l < 256 by omega)
  have hbc := bval_lt (show Pfor.cnt (Pfor.width l) (Pfor.diffs l) < 256 by omega)
  have Hfin := Lib.hid hfin; clear hfin
  have Hget := Lib.hid (fun (k : Nat) (hk : k < l.length) (h2 : k < (Pfor.diffs l).length) => show (Pfor.diffs l)[k] = UInt64.ofNat (l[k].toNat - Pfor.base l) from Pfor.diffs_get hk)
  have Hle := Lib.hid (fun (k : Nat) (hk : k < l.length) => Pfor.base_le (List.getElem_mem hk))
  generalize hDD : Pfor.diffs l = D at *
  have HDD := Lib.hid hDD; clear hDD
  generalize hWW : Pfor.width l = W at *
  clear hWW
  generalize Pfor.cnt W D = C at *
  generalize Bits.packed W (Pfor.lows W D) = pk at *
  generalize hs9' : Num.size (Pfor.base l) = s at *
  have Hs9' := Lib.hid hs9'; clear hs9'
  go_enter Try.func24, Try.ntmps24
  go_wp2_with fail
  refine H0.out.mono ?_
  rintro e w1 ⟨rfl, rfl⟩
  clear H0
  go_wp2
  go_loopw [18] (fun i wr => ∃ (k : Nat), k ≤ n ∧ i = .int .i64 k ∧ NOwn wr g (some ⟨g, 0, none⟩) n n (D.take k ++ List.replicate (n - k) 0) ∧ Below g w wr) (fun i _ => n - (intOf i).toNat)
  case atStart => exact ⟨0, by omega, rfl, by simpa using ho0, hbel0⟩
  case round =>
    clear ho0 hbel0 hmk
    obtain ⟨k, hk, rfl, ho, hbel⟩ := hrel
    have hbr := hb.below hbel
    by_cases hlt : k < n
    · have hk' : k < l.length := by have := Hl.out; omega
      obtain ⟨ad, rfl, hlt', hcell⟩ := hbr.get hk'
      simp only [uval] at hcell
      obtain ⟨hg1, hg2⟩ := fill_get (0 : UInt64) HDl.out hlt
      have hold := ho.cell hg1
      rw [hg2] at hold
      have hold' : wr.cell? ⟨g, k, none⟩ = some (.int .u64 0) := hold
      have hfree := ho.free k
      have hst := ho.store k (D[k]'(by rw [HDl.out]; exact hlt))
      have hle := Hle.out k hk'
      have hlt64 := Bits.u64_lt l[k]
      rw [fill_set (0 : UInt64) HDl.out hlt, Hget.out k hk' (by rw [HDl.out]; exact hlt)] at hst
      obtain ⟨z, hz, hz0, hz1⟩ : ∃ z : Int, z = (l[k].toNat : Int) ∧ 0 ≤ z ∧ z ≤ 18446744073709551615 := ⟨_, rfl, by omega, by omega⟩
      have hzx : x ≤ z := by rw [hz, Hx.out]; omega
      have hu : uval (UInt64.ofNat (l[k].toNat - Pfor.base l)) = .int .u64 (z - x) := by
        unfold uval
        rw [Bits.toNat_ofNat (by omega), hz, Hx.out, Int.natCast_sub hle]
      rw [hu] at hst
      rw [← hz] at hcell
      have Hst := Lib.hid hst
      have Hbl := Lib.hid (hbel.setCell (p := ⟨g, k, none⟩) (Nat.le_refl _) (.int .u64 (z - x)))
      clear hst hu hz hold hg1 hg2 ho hle hlt64
      go_wp2
      go_roundw
      case rel => exact ⟨k + 1, by omega, by go_num, Hst.out, Hbl.out⟩
      case measure => simp [intOf]; omega
    · obtain rfl : k = n := by omega
      rw [Nat.sub_self, List.replicate_zero, List.append_nil, List.take_of_length_le (by rw [HDl.out]; exact Nat.le_refl _)] at ho
      have hD := ho.rowAt
      have hsz : g + 1 ≤ wr.heap.size := ho.block.2
      have C1 := Lib.hid (H1.out wr hD hsz)
      clear H1 ho hb hbr
      go_wp2_with fail
      refine C1.out.mono ?_
      rintro e w1 ⟨rfl, hb1⟩
      clear C1
      have hbA := hb1.mono hsz
      have hszA : k * 0 + g + 1 ≤ w1.heap.size := by have := hbA.size; omega
      rw [Nat.mul_zero, Nat.zero_add] at hszA
      have hone := own_byte w1 _ _ hbv
      have hbone : Below (g + 1) wr (w1.alloc (.cells #[.int .u8 (k : Int)] 5)) := hbA.alloc hszA _
      have hszB : g + 1 ≤ (w1.alloc (.cells #[.int .u8 (k : Int)] 5)).heap.size := by simp; omega
      have CP := put_any _ 1 1 _ (Pfor.base l) [UInt8.ofNat k] _ rfl (Pfor.base_lt l) (by omega) hone.bytes (Nat.le_refl _)
      rw [← Hx.out, Hs9'.out] at CP
      replace CP := Lib.hid CP
      clear hone
      go_wp2_with fail
      refine CP.out.mono ?_
      rintro e w2 ⟨g2, c2, rfl, ho2, hb2⟩
      clear CP
      have hb2' := hbone.trans (hb2.mono hszB)
      have hszC : g + 1 ≤ w2.heap.size := Nat.le_trans hszB hb2.size
      have ho2' := ho2.low hszB
      have C3 := Lib.hid (H3.out w2 (hD.below hb2'))
      clear H3 ho2 hbA hb1 hbone hb2 hszB hszA
      go_wp2_with fail
      refine C3.out.mono ?_
      rintro e w3 ⟨rfl, rfl⟩
      clear C3
      have htwo := own_byte2 w2 _ _ _ _ hbw hbc
      have ho2a := ho2'.alloc (.cells #[.int .u8 (W : Int), .int .u8 (C : Int)] 5)
      have hb2a : Below (g + 1) wr (w2.alloc (.cells #[.int .u8 (W : Int), .int .u8 (C : Int)] 5)) := hb2'.alloc hszC _
      have hszD : g + 1 ≤ (w2.alloc (.cells #[.int .u8 (W : Int), .int .u8 (C : Int)] 5)).heap.size := by simp; omega
      have htb := htwo.bytes
      clear htwo ho2'
      go_wp2_with (at_builtin; refine wpList_append_bytes rfl (.tmp 38) (.tmp 45) rfl (g + 1) _ (1 + s) c2 _ rfl ho2a _ _ 2 2 [_, _] rfl rfl htb (by omega) hszD ?_; intro A3 c3 w3 ho3 hg3 hat3)
      have hb3 := hb2a.grown hg3 hszD (fun k hk => (ho2a.lt hk).1)
      have hszE : g + 1 ≤ w3.heap.size := Nat.le_trans hsz hb3.size
      have C4 := Lib.hid (H4.out w3 (hD.below hb3) hszE)
      clear H4 hg3 hat3 ho2a htb hb2a hszD hb2' hszC
      refine C4.out.mono ?_
      rintro e w4 ⟨A4, c4, rfl, ho4, hb4⟩
      clear C4
      have ho3' := ho3.below hb4
      have hb4' := hb3.trans (hb4.mono hszE)
      have hszF : g + 1 ≤ w4.heap.size := Nat.le_trans hsz hb4'.size
      have h4b := ho4.bytes
      clear ho4 ho3 hb3 hb4 hszE
      go_wp2_with (at_builtin; refine wpList_append_bytes rfl (.tmp 47) (.tmp 50) rfl (g + 1) _ (1 + s + 2) c3 _ rfl ho3' _ _ _ c4 pk rfl rfl h4b (by omega) hszF ?_; intro A5 c5 w5 ho5 hg5 hat5)
      have hb5 := hb4'.grown hg5 hszF (fun k hk => (ho3'.lt hk).1)
      clear hg5 hat5 ho3' h4b hb4' hszF
      generalize hP : ([UInt8.ofNat k] ++ Num.num (Pfor.base l) ++ [UInt8.ofNat W, UInt8.ofNat C]) ++ pk = P at *
      have HP := Lib.hid hP; clear hP
      generalize hws : wr = ws at *
      clear hws
      have hm5 : 1 + s + 2 + pk.length ≤ 300 := by omega
      generalize 1 + s + 2 + pk.length = m0 at *
      go_loopw [8, 54] (fun b i wr => ∃ (j m c : Nat) (A : Option Addr), j ≤ k ∧ i = .int .i64 j ∧ b = .slice A m c ∧ m ≤ 300 + 10 * j ∧ Own wr (g + 1) A m c (P ++ Pfor.excs W 0 (D.take j)) ∧ Below (g + 1) ws wr) (fun _ i _ => k - (intOf i).toNat)
      case atStart => exact ⟨0, m0, c5, A5, by omega, rfl, rfl, by omega, by simpa [Pfor.excs] using ho5, hb5⟩
      case round =>
        clear ho5 hb5
        obtain ⟨j, m, c, A6, hj, rfl, rfl, hm, ho, hbr⟩ := hrel
        have hDr := hD.below hbr
        have hszr : g + 1 ≤ wr.heap.size := Nat.le_trans hsz hbr.size
        by_cases hlt : j < k
        · have hj' : j < D.length := by have := HDl.out; omega
          obtain ⟨ad, had, hlt', hcell⟩ := hDr.get hj'
          cases had
          rw [show (⟨g, 0, none⟩ : Addr).add j = ⟨g, j, none⟩ from by by_cases h : j = 0 <;> simp [Addr.add, h]] at hcell
          simp only [uval] at hcell
          obtain ⟨z, hz, hz0, hz1⟩ : ∃ z : Int, z = (D[j].toNat : Int) ∧ 0 ≤ z ∧ z ≤ 18446744073709551615 := ⟨_, rfl, by omega, by have := Bits.u64_lt D[j]; omega⟩
          have E1 := isException_any D[j].toNat W z wr hz (Bits.u64_lt _) hW
          have Hs := Pfor.excs_take_succ W hj'
          have hv := Pfor.div_lt D[j] W
          have h9 := Num.size_le9 hv
          have Hshr := shr_nat (v := W) hz
          rw [← hz] at hcell
          clear hz
          rcases div_eq_zero_or D[j].toNat W with ⟨hd, h0⟩ | ⟨hd, h0⟩
          · rw [hd] at E1
            rw [Pfor.exc, if_neg h0] at Hs
            replace E1 := Lib.hid E1
            replace Hs := Lib.hid Hs
            have hwr : IntKind.u8.wrap (j : Int) = j := by
              have : IntKind.u8.wrap (j : Int) = (j : Int) % 256 := by simp [IntKind.wrap, IntKind.bits, IntKind.signed]
              rw [this]; omega
            have hone := own_byte wr (UInt8.ofNat j) (IntKind.u8.wrap (j : Int)) (by rw [hwr]; exact bval_lt (by omega))
            have hob := hone.bytes
            have hoa := ho.alloc (.cells #[.int .u8 (IntKind.u8.wrap (j : Int))] 5)
            have hba : Below (g + 1) ws (wr.alloc (.cells #[.int .u8 (IntKind.u8.wrap (j : Int))] 5)) := hbr.alloc hszr _
            have hsza : g + 1 ≤ (wr.alloc (.cells #[.int .u8 (IntKind.u8.wrap (j : Int))] 5)).heap.size := by simp; omega
            have HP1 := Lib.hid (fun (A2 : Option Addr) (c2 : Nat) (l2 : List UInt8) (B2 : Nat) (w2 : World) (hl2 : l2.length = m + 1) (hb2 : Bytes w2 B2 A2 l2) (hB2 : B2 ≤ w2.heap.size) => put_any A2 (m + 1) c2 B2 _ l2 w2 hl2 hv (by omega) hb2 hB2)
            rw [← Hshr] at HP1
            have Hv := Lib.hid hv
            clear hd h0 hone Hshr hv hDr hwr
            generalize Num.num (D[j].toNat / 2 ^ W) = nv at *
            generalize hsv : Num.size (D[j].toNat / 2 ^ W) = sv at *
            clear hsv
            go_wp2_with fail
            refine E1.out.mono ?_
            rintro e w1 ⟨rfl, rfl⟩
            clear E1
            go_wp2_with fail
            go_region_held3 (fun _ => True) (trivial) (first | (refine step_append_bytes (by rfl) (.tmp 62) (.tmp 65) (by rfl) (g + 1) A6 m c _ (by rfl) (by exact hoa) _ _ 1 1 [UInt8.ofNat j] (by rfl) rfl (by exact hob) (by omega) (by exact hsza) ?_; intro A7 c7 w7 ho7 hg7 hat7) | (go_at_call 22; refine (HP1.out A7 c7 _ _ _ (by exact ho7.len) (by exact ho7.bytes) (by exact Nat.le_refl _)).mono ?_; rintro e w8 ⟨g8, c8, rfl, ho8, hb8⟩))
            have hb7 : Below (g + 1) ws w7 := (hba.drew).grown (by exact hg7) (by exact hsza) (fun k hk => (hoa.lt hk).1)
            have hsz7 : g + 1 ≤ w7.heap.size := Nat.le_trans hsz hb7.size
            have hb8' : Below w7.heap.size w7 w8 := by exact hb8
            have hb9 := hb7.trans (hb8'.mono hsz7)
            have ho9 : Own w8 (g + 1) (some ⟨g8, 0, none⟩) (m + 1 + sv) c8 ((P ++ Pfor.excs W 0 (D.take j) ++ [UInt8.ofNat j]) ++ nv) := ho8.low hsz7
            rw [List.append_assoc, List.append_assoc, List.singleton_append, ← Hs.out] at ho9
            clear ho7 hg7 hat7 ho8 hb8 hb8' hb7 hsz7 hoa hob hba hsza HP1 ho hbr
            go_wp2
            go_roundw
            case rel => exact ⟨j + 1, m + 1 + sv, c8, _, by omega, by go_num, rfl, by omega, ho9, hb9⟩
            case measure => simp [intOf]; omega
          · rw [hd] at E1
            rw [Pfor.exc, if_pos h0, List.append_nil] at Hs
            replace E1 := Lib.hid E1
            replace Hs := Lib.hid Hs
            clear hd h0 Hshr hv h9
            go_wp2_with fail
            refine E1.out.mono ?_
            rintro e w1 ⟨rfl, rfl⟩
            clear E1
            go_wp2
            go_roundw
            case rel => exact ⟨j + 1, m, c, A6, by omega, by go_num, rfl, by omega, by rw [Hs.out]; exact ho, hbr⟩
            case measure => simp [intOf]; omega
        · obtain rfl : j = k := by omega
          rw [List.take_of_length_le (by rw [HDl.out]; exact Nat.le_refl _), ← Hfin.out] at ho
          go_wp2
          go_ret
          have hlen := ho.len
          have hp := Pfor.block_pos l
          obtain ⟨g9, rfl, _⟩ := ho.at_ (by omega)
          rw [hlen]
          exact ⟨g9, c, rfl, ho.low (by omega), hbel.trans (hbr.mono (by omega))⟩
end Go.Proofs.Ytoebeibmmclhpaa

/- A loop over an iterator that counts down: the law, with the number that is left as the ghost; blockLengths and its closure. -/
namespace Go.Proofs.Ytoebeibmmclhpaa
open Go.RowKit Go.Shelf
set_option maxRecDepth 100000
/-- How a round may be left: it goes on with m left, or it returns. -/
def lenPost (I : Nat → World → Prop) (Ix : World → Prop) (m : Nat) (W : World) : Exit → Act → World → Prop
  | .normal, _, W' => KeepsOthers W W' ∧ I m W'
  | .ret, _, W' => KeepsOthers W W' ∧ Ix W'
  | _, _, _ => False
/-- The iterator gf, with what it captured, counts n0 down by 32 and says each time how many there are of the 32. -/
def Lens (n gf : Nat) (lb : Array Value) (n0 : Nat) (w : World) : Prop :=
  ∀ (l : Nat) (J : Nat → World → Prop) (Jx : World → Prop) (W : World), Below w.heap.size w W →
    (∀ m W1, 0 < m → J m W1 → YieldAt Fence.wide (n - 1) Try.prog l #[.int .i64 ((min m 32 : Nat) : Int)] W1 fun e W' => (e = .returned (.bool true) ∧ J (m - 32) W') ∨ (e = .returned (.bool false) ∧ Jx W')) →
    J n0 W → CallsIn Fence.wide n Try.prog gf (#[.func (.yield l) #[] #[]] ++ lb) W fun e W' => (∃ v, e = .returned v) ∧ (J 0 W' ∨ Jx W')
section law
variable {n n0 gf : Nat} {g : Operand} {ps : Array Tmp} {assign body : Code} {Q : Exit → Act → World → Prop} {a : Act} {w : World} {lb : Array Value}
theorem wpIn_lens (hg : a.eval g = .func (.func gf) #[] lb) (eg : ∀ args w, (callFunc gf args).run Try.prog w = .ok (.enter gf args) w) (hseq : Lens (n - 1) gf lb n0 w) (hps : ps.size = 1)
    (I : Nat → World → Prop) (Ix : World → Prop) (hI : OwnFrom w.heap.size I) (hIx : OwnFrom w.heap.size fun (_ : Unit) => Ix) (h0 : I n0 w) (a₁ : Nat → Act)
    (hassign : ∀ (l m : Nat) (W : World) (K : Act → World → Prop), K (a₁ m) W →
      assign.wpIn (Fence.wide.inRound l) (n - 1 - 1) Try.prog (Exit.then K (fun _ _ _ => False)) { tmps := (ps.zip #[.int .i64 ((min m 32 : Nat) : Int)]).foldl (fun t (p, v) => t.setIfInBounds p v) a.tmps, defers := [] } W)
    (hbody : ∀ (l m : Nat) (W : World), 0 < m → I m W → body.wpIn (Fence.wide.inRound l) (n - 1 - 1) Try.prog (lenPost I Ix (m - 32) W) (a₁ m) W)
    (hdone : ∀ (D : Nat) (W : World), w.heap.size ≤ D → I 0 W → W.heap[D]? = some (.deferred (some [])) → Q .normal { a with defers := { target := .collected D, args := #[] } :: a.defers } W)
    (hstop : ∀ (D : Nat) (W : World), w.heap.size ≤ D → Ix W → W.heap[D]? = some (.deferred (some [])) → Code.ret.wpIn Fence.wide n Try.prog Q { a with defers := { target := .collected D, args := #[] } :: a.defers } W) :
    (Code.rangeFunc g ps assign body).wpIn Fence.wide n Try.prog Q a w := by
  refine wpIn_rangeFunc fun fn hfn => ?_
  -- the record, in the states that it comes to
  generalize hrc : (fun (st : LoopState) (pe : Option Code) => ({ state := st, pending := pe, fn, tmps := a.tmps, params := ps, assign, body, defers := w.heap.size } : Loop)) = rc
  have erc : ∀ st pe, rc st pe = { state := st, pending := pe, fn, tmps := a.tmps, params := ps, assign, body, defers := w.heap.size } := fun st pe => by rw [← hrc]
  generalize hW1 : (w.alloc (.deferred (some []))).alloc (.loop (rc .ready none)) = W1
  have sz1 : (w.alloc (.deferred (some []))).heap.size = w.heap.size + 1 := by simp
  have rec1 : W1.heap[w.heap.size + 1]? = some (.loop (rc .ready none)) := by
    rw [← hW1, ← sz1]; exact World.alloc_heap_new _ _
  have def1 : W1.heap[w.heap.size]? = some (.deferred (some [])) := by
    rw [← hW1, Below.heap_alloc _ _ _ (by omega)]; exact World.alloc_heap_new w _
  have bel1 : Below w.heap.size w W1 := by
    rw [← hW1]; exact ((Below.refl _ w).alloc (Nat.le_refl _) _).alloc (by omega) _
  have inv1 : I n0 W1 := by rw [← hW1]; exact hI.alloc _ (hI.alloc _ h0)
  have henter : (Instr.enterLoop fn a.tmps ps assign body Fence.wide.round).run Try.prog w = .ok (w.heap.size + 1, [{ target := .collected w.heap.size, args := #[] }]) W1 := by
    rw [← hW1, erc]; exact run_enterLoop_outer _ _ _ _ _
  refine ⟨_, _, W1, { target := .fn (.func gf) lb, args := #[.func (.yield (w.heap.size + 1)) #[] #[]] }, W1, gf, #[.func (.yield (w.heap.size + 1)) #[] #[]] ++ lb, W1, henter, ?_, fun _ _ => trivial, ?_, (fun h => by cases h), ?_⟩
  · simp only [resolve, hg]
    simp [go_sem]
  · simp [invoke, go_sem, eg]
  -- what lies between two rounds, and behind the last
  refine (hseq (w.heap.size + 1) (fun m W => I m W ∧ W.heap[w.heap.size + 1]? = some (.loop (rc .ready none)) ∧ W.heap[w.heap.size]? = some (.deferred (some [])))
    (fun W => Ix W ∧ W.heap[w.heap.size + 1]? = some (.loop (rc .done (some .ret))) ∧ W.heap[w.heap.size]? = some (.deferred (some []))) W1 bel1 ?_ ⟨inv1, rec1, def1⟩).mono ?_
  · rintro m W hm ⟨hi, hl, hk⟩
    have hlt : w.heap.size + 1 < W.heap.size := (Array.getElem?_eq_some_iff.1 hl).1
    have hy := run_yield (P := Try.prog) (args := #[.int .i64 ((min m 32 : Nat) : Int)]) hl (by rw [erc]; exact hps.symm)
    have hbg := run_beginRound (P := Try.prog) hl (by rw [erc])
    generalize hWb : W.putObj (w.heap.size + 1) (.loop { rc .ready none with state := .busy }) = Wb at hbg
    have busy : Wb.heap[w.heap.size + 1]? = some (.loop { rc .ready none with state := .busy }) := by rw [← hWb]; exact World.putObj_heap_same hlt
    have defb : Wb.heap[w.heap.size]? = some (.deferred (some [])) := by rw [← hWb, World.putObj_heap_other (by omega)]; exact hk
    have invb : I m Wb := by rw [← hWb]; exact hI.putObj _ hi (by omega) hl rfl
    rw [erc] at hy
    refine ⟨fn, _, assign, body, hy, roundIn_of_wpIn hfn (hassign _ m W _ ⟨Wb, hbg, wpIn_mono (hbody _ m Wb hm invb) ?_⟩)⟩
    -- the end of a round
    have fin : ∀ (jump : Option Code) (W3 : World), KeepsOthers Wb W3 → ∃ st W4, (Instr.endRound (w.heap.size + 1) jump).run Try.prog W3 = .ok (.bool jump.isNone) W4 ∧ st = (if jump.isNone then LoopState.ready else LoopState.done) ∧
        W4 = W3.putObj (w.heap.size + 1) (.loop (rc st jump)) ∧ W3.heap[w.heap.size + 1]? = some (.loop { rc .ready none with state := .busy }) ∧ W4.heap[w.heap.size + 1]? = some (.loop (rc st jump)) ∧ W4.heap[w.heap.size]? = some (.deferred (some [])) := fun jump W3 hko => by
      have b3 := hko.same _ _ busy rfl
      have he := run_endRound (P := Try.prog) jump b3
      refine ⟨_, _, he, rfl, by rw [erc, erc], b3, ?_, ?_⟩
      · rw [World.putObj_heap_same (Array.getElem?_eq_some_iff.1 b3).1, erc, erc]
      · rw [World.putObj_heap_other (by omega)]; exact hko.same _ _ defb rfl
    rintro e a3 W3 hp
    cases e with
    | normal =>
      obtain ⟨st, W4, hr, rfl, hW4, b3, r4, d4⟩ := fin none W3 hp.1
      exact ⟨_, W4, hr, .inl ⟨rfl, by rw [hW4]; exact hI.putObj _ hp.2 (by omega) b3 rfl, r4, d4⟩⟩
    | ret =>
      obtain ⟨st, W4, hr, rfl, hW4, b3, r4, d4⟩ := fin (some .ret) W3 hp.1
      exact ⟨_, W4, hr, .inr ⟨rfl, by rw [hW4]; exact hIx.putObj (s := ()) _ hp.2 (by omega) b3 rfl, r4, d4⟩⟩
    | exit _ => exact hp.elim
    | goto _ => exact hp.elim
    | panic _ => exact hp.elim
    | outgrown => exact hp.elim
  · rintro e W2 ⟨⟨v, rfl⟩, (⟨hi, hl, hk⟩ | ⟨hi, hl, hk⟩)⟩
    · have hend := run_endLoop (P := Try.prog) hl (by rw [erc]; simp)
      rw [show (rc .ready none).pending = none from by rw [erc]] at hend
      exact ⟨none, _, hend, hdone _ _ (Nat.le_refl _) (hI.putObj _ hi (by omega) hl rfl) ((World.putObj_heap_other (by omega)).trans hk)⟩
    · have hend := run_endLoop (P := Try.prog) hl (by rw [erc]; simp)
      rw [show (rc .done (some .ret)).pending = some .ret from by rw [erc]] at hend
      exact ⟨some .ret, _, hend, hstop _ _ (Nat.le_refl _) (hIx.putObj (s := ()) _ hi (by omega) hl rfl) ((World.putObj_heap_other (by omega)).trans hk)⟩
end law
theorem blockLengths_any (n : Nat) (w : World) : Calls Try.prog 23 #[.int .i64 (n : Int)] w fun e w' =>
    e = .returned (.func (.func 35) #[] #[.pointer (some ⟨w.heap.size, 0, none⟩)]) ∧ w' = w.alloc (.cells #[.int .i64 (n : Int)] 3) := by
  have hmf : ∀ (fn : Fn) (first cap : Array Value) (w : World), (Instr.makeFunc fn first cap).run Try.prog w = .ok (.func fn first cap) w := fun _ _ _ _ => rfl
  go_enter Try.func23, Try.ntmps23
  go_wp2
  go_ret
  exact ⟨rfl, rfl⟩
attribute [local go_sem] Oper.semAt_some
set_option maxHeartbeats 1000000 in
theorem lens_of (n b n0 : Nat) (w : World) (hn0 : n0 ≤ 9223372036854775807) (hb : b < w.heap.size) (hc : w.cell? ⟨b, 0, none⟩ = some (.int .i64 (n0 : Int))) :
    Lens n 35 #[.pointer (some ⟨b, 0, none⟩)] n0 w := by
  intro l J Jx W hW hY h0
  have hcell := (hW.cell (p := ⟨b, 0, none⟩) hb).trans hc
  refine callsIn_of_wp Try.func35 rfl trivial ?_ rfl
  simp only [Try.ntmps35, List.size_toArray, List.length_cons, List.length_nil, Nat.reduceAdd, Nat.reduceSub, Array.replicate_succ, Array.replicate_zero, List.push_toArray, List.append_toArray, List.nil_append, List.cons_append]
  gi_wp2
  gi_loopw [3] (fun s wr => ∃ z : Int, s = .int .i64 z ∧ z ≤ 9223372036854775807 ∧ -32 ≤ z ∧ J z.toNat wr) (fun s _ => (intOf s).toNat)
  case atStart => exact ⟨n0, rfl, by omega, by omega, h0⟩
  case round =>
    obtain ⟨z, rfl, hz, hz', hJ⟩ := hrel
    by_cases h : 0 < z
    · obtain ⟨fn, tmps, assign, body, hy, hR⟩ := hY z.toNat wr (by omega) hJ
      have hmin : ((min z.toNat 32 : Nat) : Int) = if 32 < z then 32 else z := by split <;> omega
      rw [hmin] at hy
      gi_wp2
      · refine ⟨(fun h => by cases h), hR.mono ?_⟩
        rintro e W3 (⟨rfl, hJ3⟩ | ⟨rfl, hJx3⟩)
        · gi_wp2
          go_roundw
          case rel => exact ⟨z - 32, rfl, by omega, by omega, by rw [show (z - 32).toNat = z.toNat - 32 from by omega]; exact hJ3⟩
          case measure => simp [intOf]; omega
        · gi_wp2
          refine bodyPost_ret (results_none rfl _ _ _) rfl ?_
          exact ⟨⟨_, rfl⟩, .inr hJx3⟩
      · refine ⟨(fun h => by cases h), hR.mono ?_⟩
        rintro e W3 (⟨rfl, hJ3⟩ | ⟨rfl, hJx3⟩)
        · gi_wp2
          go_roundw
          case rel => exact ⟨z - 32, rfl, by omega, by omega, by rw [show (z - 32).toNat = z.toNat - 32 from by omega]; exact hJ3⟩
          case measure => simp [intOf]; omega
        · gi_wp2
          refine bodyPost_ret (results_none rfl _ _ _) rfl ?_
          exact ⟨⟨_, rfl⟩, .inr hJx3⟩
    · gi_wp2
      go_end0
      exact ⟨⟨_, rfl⟩, .inl (by rw [show z.toNat = 0 from by omega] at hJ; exact hJ)⟩
end Go.Proofs.Ytoebeibmmclhpaa
