/- Texts of several layers, one behind the other: Num Plain Sym SymPie SymOrd Words Blk Own Fits Copy Cuts Draws LawB LawIn Samples Row Strs StrMap BytesEq SymCount. -/
import Derived.Lib.BitFns
import Derived.Test.YtoebeibmmclhpaaGreatProg
import Derived.WalkKit
import Derived.Deep.AppendLies
import Derived.Deep.Draws
import Derived.Maps.AppendAt
import Derived.Lib.Hide
import Derived.OwnWalk
import Derived.KernelRfl
import Derived.Laws.OwnMore
import Derived.WalkSpells
import Derived.WalkLawsBesides
import Derived.Laws.Slices
import Derived.Lib.BufferRead
import Derived.Test.YtoebeibmmclhpaaGreatRows
import Derived.ProofKit
import Derived.OpenShut
import Derived.ChangeOld
import Derived.SizedLaws
import Derived.Deep.DeepHandedRow
import Derived.Lib.LaidTab
import Derived.Deep.Slices
import Derived.SliceStrings
import Derived.Deep.OwnRows
import Derived.Deep.QuietTactic
import Derived.BigQuiet
import Derived.RegionTactic
import Derived.ChangeAlike
import Derived.Maps.OwnSet
import Derived.Laws.IdiomStrings
import Derived.Deep.LoopGhost
/- Numbers as bytes, on natural numbers: plain arithmetic, no program. -/
namespace Go.Proofs.YtoebeibmmclhpaaGreat.Num
/-- how many bytes hold v -/
def width (v : Nat) : Nat := (Lib.bitLen v + 7) / 8
/-- k bytes of v, the lowest first -/
def le : Nat → Nat → List UInt8
  | 0, _ => []
  | k + 1, v => UInt8.ofNat v :: le k (v / 256)
/-- what bytes come to, the lowest first -/
def val : List UInt8 → Nat
  | [] => 0
  | b :: r => b.toNat + 256 * val r
/-- a number's encoding -/
def num (v : Nat) : List UInt8 := if v ≤ 247 then [UInt8.ofNat v] else UInt8.ofNat (247 + width v) :: le (width v) v
/-- how many bytes it has -/
def size (v : Nat) : Nat := if v ≤ 247 then 1 else 1 + width v
/-- the number that bytes begin with: it, its size, its error -/
def take : List UInt8 → Nat × Nat × Nat
  | [] => (0, 0, 3)
  | b :: r => if b.toNat ≤ 247 then (b.toNat, 1, 0) else if r.length < b.toNat - 247 then (0, 0, 3)
    else if size (val (r.take (b.toNat - 247))) = 1 + (b.toNat - 247) then (val (r.take (b.toNat - 247)), 1 + (b.toNat - 247), 0) else (0, 0, 2)
theorem take_cons (b : UInt8) (r : List UInt8) : take (b :: r) = if b.toNat ≤ 247 then (b.toNat, 1, 0) else if r.length < b.toNat - 247 then (0, 0, 3)
    else if size (val (r.take (b.toNat - 247))) = 1 + (b.toNat - 247) then (val (r.take (b.toNat - 247)), 1 + (b.toNat - 247), 0) else (0, 0, 2) := rfl
theorem byte_lt (b : UInt8) : b.toNat < 256 := b.toNat_lt
theorem ofNat_toNat (b : UInt8) : UInt8.ofNat b.toNat = b := by simp
theorem toNat_ofNat (x : Nat) : (UInt8.ofNat x).toNat = x % 256 := UInt8.toNat_ofNat'
theorem bitLen_pos {v : Nat} (h : 0 < v) (hv : v < 18446744073709551616) : 1 ≤ Lib.bitLen v := by
  rw [Lib.bitLen_half v (by omega) hv]; omega
theorem bitLen_zero : Lib.bitLen 0 = 0 := by decide
theorem width_zero : width 0 = 0 := by decide
theorem width_step {v : Nat} (h : 0 < v) (hv : v < 18446744073709551616) : width v = width (v / 256) + 1 := by
  unfold width
  rcases Nat.lt_or_ge v 256 with hlt | hge
  · have h1 := bitLen_pos h hv
    have h8 := Lib.bitLen_le8 ⟨v, hlt⟩
    simp only at h8
    rw [Nat.div_eq_of_lt hlt, bitLen_zero]
    omega
  · rw [Lib.bitLen_shift8 v hge hv]
    omega
theorem width_le {v k : Nat} (hk : k ≤ 8) (h : v < 256 ^ k) : width v ≤ k := by
  have h2 : v < 2 ^ (8 * k) := by rw [Nat.pow_mul]; exact h
  have := Lib.bitLen_le v (8 * k) (by omega) h2
  unfold width
  omega
theorem width_le8 {v : Nat} (h : v < 18446744073709551616) : width v ≤ 8 := width_le (Nat.le_refl _) h
theorem width_pos {v : Nat} (h : 0 < v) (hv : v < 18446744073709551616) : 1 ≤ width v := by rw [width_step h hv]; omega
theorem lt_width {v : Nat} (hv : v < 18446744073709551616) : v < 256 ^ width v := by
  induction v using Nat.strongRecOn with
  | ind v ih =>
    rcases Nat.eq_zero_or_pos v with h0 | h0
    · subst h0; rw [width_zero]; decide
    · rw [width_step h0 hv, Nat.pow_succ]
      have := ih (v / 256) (by omega) (by omega)
      omega
theorem le_length (k v : Nat) : (le k v).length = k := by
  induction k generalizing v with
  | zero => rfl
  | succ k ih => simp [le, ih]
theorem le_snoc (k v : Nat) : le (k + 1) v = le k v ++ [UInt8.ofNat (v / 256 ^ k)] := by
  induction k generalizing v with
  | zero => simp [le]
  | succ k ih =>
    rw [le, ih, le, List.cons_append, Nat.div_div_eq_div_mul, Nat.pow_succ, Nat.mul_comm 256]
theorem val_lt (l : List UInt8) : val l < 256 ^ l.length := by
  induction l with
  | nil => decide
  | cons b r ih =>
    have := byte_lt b
    rw [val, List.length_cons, Nat.pow_succ]
    omega
theorem val_le {k v : Nat} (h : v < 256 ^ k) : val (le k v) = v := by
  induction k generalizing v with
  | zero => simp at h; subst h; rfl
  | succ k ih =>
    rw [Nat.pow_succ] at h
    rw [le, val, ih (by omega), toNat_ofNat]
    omega
theorem le_val (l : List UInt8) : le l.length (val l) = l := by
  induction l with
  | nil => rfl
  | cons b r ih =>
    have hb := byte_lt b
    rw [List.length_cons, le, val, show (b.toNat + 256 * val r) / 256 = val r from by omega, ih]
    congr 1
    apply UInt8.toNat_inj.1
    rw [toNat_ofNat]
    omega
theorem val_snoc (l : List UInt8) (b : UInt8) : val (l ++ [b]) = val l + b.toNat * 256 ^ l.length := by
  induction l with
  | nil => simp [val]
  | cons c r ih =>
    rw [List.cons_append, val, ih, val, List.length_cons, Nat.pow_succ, Nat.mul_add, ← Nat.mul_assoc, Nat.mul_comm 256 b.toNat, Nat.mul_assoc, Nat.mul_comm 256 (256 ^ r.length)]
    omega
theorem size_pos (v : Nat) : 1 ≤ size v := by unfold size; split <;> omega
theorem size_le9 {v : Nat} (h : v < 18446744073709551616) : size v ≤ 9 := by
  have := width_le8 h
  unfold size; split <;> omega
theorem num_length (v : Nat) : (num v).length = size v := by
  unfold num size
  split
  · rfl
  · simp [le_length]; omega
/-- what is put is taken, whatever stands behind -/
theorem take_num {v : Nat} (hv : v < 18446744073709551616) (t : List UInt8) : take (num v ++ t) = (v, size v, 0) := by
  unfold num size
  split
  · rename_i h
    simp only [List.cons_append, List.nil_append, take, toNat_ofNat]
    rw [Nat.mod_eq_of_lt (by omega), if_pos h]
  · rename_i h
    have h8 := width_le8 hv
    have h1 := width_pos (by omega) hv
    have hb : (UInt8.ofNat (247 + width v)).toNat = 247 + width v := by rw [toNat_ofNat]; omega
    have htake : (le (width v) v ++ t).take (width v) = le (width v) v := List.take_left' (le_length _ _)
    simp only [List.cons_append, take, hb]
    rw [if_neg (by omega), if_neg (by rw [List.length_append, le_length]; omega), show 247 + width v - 247 = width v from by omega, htake, val_le (lt_width hv)]
    have : size v = 1 + width v := by unfold size; rw [if_neg h]
    rw [if_pos this]
/-- what is taken, put again, are the same bytes -/
theorem num_take {l : List UInt8} {v s : Nat} (h : take l = (v, s, 0)) : num v = l.take s ∧ s = size v ∧ s ≤ l.length ∧ v < 18446744073709551616 := by
  cases l with
  | nil => simp [take] at h
  | cons b r =>
    have hb := byte_lt b
    rw [take_cons] at h
    split at h
    · rename_i h1
      simp only [Prod.mk.injEq, and_true] at h
      obtain ⟨rfl, rfl⟩ := h
      refine ⟨?_, ?_, by simp, by omega⟩
      · unfold num; rw [if_pos h1, ofNat_toNat]; rfl
      · unfold size; rw [if_pos h1]
    · rename_i h1
      split at h
      · simp at h
      · rename_i h2
        split at h
        · rename_i h3
          simp only [Prod.mk.injEq, and_true] at h
          obtain ⟨rfl, rfl⟩ := h
          have hlen : (r.take (b.toNat - 247)).length = b.toNat - 247 := by simp; omega
          have hvl := val_lt (r.take (b.toNat - 247))
          rw [hlen] at hvl
          have hv : val (r.take (b.toNat - 247)) < 18446744073709551616 := Nat.lt_of_lt_of_le hvl (Nat.le_trans (Nat.pow_le_pow_right (by omega) (show b.toNat - 247 ≤ 8 by omega)) (by decide))
          have hnot : ¬ val (r.take (b.toNat - 247)) ≤ 247 := fun hle => by
            unfold size at h3; rw [if_pos hle] at h3; omega
          have hw : width (val (r.take (b.toNat - 247))) = b.toNat - 247 := by
            unfold size at h3; rw [if_neg hnot] at h3; omega
          refine ⟨?_, h3.symm, by simp; omega, hv⟩
          unfold num
          rw [if_neg hnot, hw, show 247 + (b.toNat - 247) = b.toNat from by omega, ofNat_toNat, Nat.add_comm 1, List.take_succ_cons]
          have e := le_val (r.take (b.toNat - 247))
          rw [hlen] at e
          exact congrArg (b :: ·) e
        · simp at h
/-- Is a number taken, or which error? -/
theorem take_cases (l : List UInt8) : (∃ v s, take l = (v, s, 0)) ∨ ∃ e, take l = (0, 0, e) ∧ (e = 3 ∨ e = 2) := by
  cases l with
  | nil => exact .inr ⟨3, rfl, .inl rfl⟩
  | cons b r =>
    rw [take_cons]
    split
    · exact .inl ⟨_, _, rfl⟩
    · split
      · exact .inr ⟨3, rfl, .inl rfl⟩
      · split
        · exact .inl ⟨_, _, rfl⟩
        · exact .inr ⟨2, rfl, .inr rfl⟩
/-- a number, unfolded -/
def unfold (v : Nat) : Int := if v % 2 = 0 then ((v / 2 : Nat) : Int) else -((v / 2 : Nat) : Int) - 1
end Go.Proofs.YtoebeibmmclhpaaGreat.Num

/- The shift register of CRC-32C on natural numbers: plain arithmetic, no program. It is linear, it is undone step by step, and half a byte may be shifted out by a table. -/
namespace Go.Proofs.YtoebeibmmclhpaaGreat.Plain
/-- one shift of the register -/
def step (x : Nat) : Nat := if x % 2 = 1 then x / 2 ^^^ 2197175160 else x / 2
def steps : Nat → Nat → Nat
  | 0, x => x
  | n + 1, x => steps n (step x)
/-- the register takes a byte -/
def eat (r : Nat) (b : UInt8) : Nat := steps 8 (r ^^^ b.toNat)
def runs (r : Nat) (l : List UInt8) : Nat := l.foldl eat r
def full : Nat := 4294967295
def more (c : Nat) (l : List UInt8) : Nat := full - runs (full - c) l
def sum (l : List UInt8) : Nat := full - runs full l
theorem byte_lt (b : UInt8) : b.toNat < 256 := b.toNat_lt
/-- linear -/
theorem step_xor (x y : Nat) : step (x ^^^ y) = step x ^^^ step y := by
  have hd : (x ^^^ y) / 2 = x / 2 ^^^ y / 2 := Nat.xor_div_two_pow (n := 1)
  have hm : (x ^^^ y) % 2 = (x % 2) ^^^ (y % 2) := Nat.xor_mod_two_pow (n := 1)
  unfold step
  rw [hd, hm]
  rcases Nat.mod_two_eq_zero_or_one x with hx | hx <;> rcases Nat.mod_two_eq_zero_or_one y with hy | hy
  · simp [hx, hy]
  · simp [hx, hy, Nat.xor_assoc]
  · simp only [hx, hy]
    rw [if_pos (by decide), if_pos trivial, if_neg (by decide), Nat.xor_assoc, Nat.xor_assoc, Nat.xor_comm (y / 2)]
  · simp only [hx, hy]
    rw [if_neg (by decide), if_pos trivial, if_pos trivial]
    rw [Nat.xor_assoc, ← Nat.xor_assoc 2197175160, Nat.xor_comm 2197175160 (y / 2), Nat.xor_assoc (y / 2), Nat.xor_self, Nat.xor_zero]
theorem steps_xor (n x y : Nat) : steps n (x ^^^ y) = steps n x ^^^ steps n y := by
  induction n generalizing x y with
  | zero => rfl
  | succ n ih => simp only [steps, step_xor, ih]
theorem steps_add (n m x : Nat) : steps (n + m) x = steps m (steps n x) := by
  induction n generalizing x with
  | zero => simp [steps]
  | succ n ih => rw [Nat.succ_add]; exact ih _
/-- the table of four shifts -/
def tab : List Nat := [0, 274646895, 549293790, 820201905, 1098587580, 1361435347, 1640403810, 1905808397, 2197175160, 2460548119, 2722870694, 2987750089, 3280807620, 3553878443, 3811616794, 4084100981]
theorem tab_steps (i : Nat) (h : i < 16) : tab.getD i 0 = steps 4 i := by
  have : ∀ i : Fin 16, tab.getD i.val 0 = steps 4 i.val := by decide
  exact this ⟨i, h⟩
theorem split16 (x : Nat) : (x / 16 * 16) ^^^ (x % 16) = x := by
  have hd : ((x / 16 * 16) ^^^ (x % 16)) / 16 = (x / 16 * 16) / 16 ^^^ (x % 16) / 16 := Nat.xor_div_two_pow (n := 4)
  have hm : ((x / 16 * 16) ^^^ (x % 16)) % 16 = (x / 16 * 16) % 16 ^^^ (x % 16) % 16 := Nat.xor_mod_two_pow (n := 4)
  rw [Nat.mul_div_cancel _ (by omega), Nat.div_eq_of_lt (Nat.mod_lt x (by omega)), Nat.xor_zero] at hd
  rw [Nat.mul_mod_left, Nat.mod_mod, Nat.zero_xor] at hm
  omega
theorem step_even (x : Nat) : step (x * 2) = x := by
  unfold step
  rw [if_neg (by omega)]
  omega
theorem steps_mul (n x : Nat) : steps n (x * 2 ^ n) = x := by
  induction n generalizing x with
  | zero => simp [steps]
  | succ n ih =>
    rw [Nat.pow_succ, ← Nat.mul_assoc]
    show steps n (step _) = x
    rw [step_even]
    exact ih x
theorem nibble (x : Nat) : x / 16 ^^^ tab.getD (x % 16) 0 = steps 4 x := by
  have h := steps_xor 4 (x / 16 * 16) (x % 16)
  rw [split16] at h
  rw [h, tab_steps _ (Nat.mod_lt x (by omega))]
  exact congrArg (· ^^^ steps 4 (x % 16)) (steps_mul 4 (x / 16)).symm
theorem nibbles (x : Nat) : steps 4 x / 16 ^^^ tab.getD (steps 4 x % 16) 0 = steps 8 x := by
  rw [nibble, ← steps_add]
end Go.Proofs.YtoebeibmmclhpaaGreat.Plain

/- Tables of symbols, on lists of bytes: plain, no program. -/
namespace Go.Proofs.YtoebeibmmclhpaaGreat.Sym
/-- is it a table? -/
def Formed (t : List (List UInt8)) : Prop := t.length ≤ 32 ∧ (∀ s ∈ t, 2 ≤ s.length ∧ s.length ≤ 8) ∧ t.Nodup
instance (t : List (List UInt8)) : Decidable (Formed t) := inferInstanceAs (Decidable (_ ∧ _ ∧ _))
def formed (t : List (List UInt8)) : Bool := decide (Formed t)
theorem formed_iff {t : List (List UInt8)} : formed t = true ↔ Formed t := by unfold formed; exact decide_eq_true_iff
theorem formed_not {t : List (List UInt8)} : formed t = false ↔ ¬ Formed t := by unfold formed; exact decide_eq_false_iff_not
/-- symbol r is the longest that b begins with; none: it begins with none -/
def IsLongest (t : List (List UInt8)) (b : List UInt8) : Option Nat → Prop
  | none => ∀ s ∈ t, ¬ s <+: b
  | some k => ∃ h : k < t.length, t[k] <+: b ∧ ∀ s ∈ t, s <+: b → s.length ≤ t[k].length
theorem prefix_same {a c b : List UInt8} (h1 : a <+: b) (h2 : c <+: b) (h : a.length = c.length) : a = c := by
  rw [List.prefix_iff_eq_take] at h1 h2
  rw [h1, h2, h]
theorem nodup_at {t : List (List UInt8)} (h : t.Nodup) {k j : Nat} (hk : k < t.length) (hj : j < t.length) (e : t[k] = t[j]) : k = j := by
  exact (List.getElem_inj h).1 e
theorem IsLongest.unique {t : List (List UInt8)} {b : List UInt8} (ht : t.Nodup) : ∀ {r r' : Option Nat}, IsLongest t b r → IsLongest t b r' → r = r'
  | none, none, _, _ => rfl
  | none, some _, h, ⟨hk, hp, _⟩ => absurd hp (h _ (List.getElem_mem hk))
  | some _, none, ⟨hk, hp, _⟩, h => absurd hp (h _ (List.getElem_mem hk))
  | some k, some j, ⟨hk, hp, hm⟩, ⟨hj, hq, hn⟩ => by
    have e := prefix_same hp hq (Nat.le_antisymm (hn _ (List.getElem_mem hk) hp) (hm _ (List.getElem_mem hj) hq))
    rw [nodup_at ht hk hj e]
/-- the longest among the first i symbols: the document's way -/
def upto (t : List (List UInt8)) (b : List UInt8) : Nat → Option Nat
  | 0 => none
  | i + 1 => if t.getD i [] <+: b then
      match upto t b i with
      | none => some i
      | some k => if (t.getD k []).length < (t.getD i []).length then some i else some k
    else upto t b i
def longest (t : List (List UInt8)) (b : List UInt8) : Option Nat := upto t b t.length
theorem getD_eq {t : List (List UInt8)} {k : Nat} (h : k < t.length) : t.getD k [] = t[k] := by simp [h]
theorem upto_is (t : List (List UInt8)) (b : List UInt8) : ∀ i, i ≤ t.length → (upto t b i = none ∧ ∀ j, (h : j < i) → ¬ t.getD j [] <+: b) ∨
    ∃ k, upto t b i = some k ∧ k < i ∧ t.getD k [] <+: b ∧ ∀ j, j < i → t.getD j [] <+: b → (t.getD j []).length ≤ (t.getD k []).length := by
  intro i
  induction i with
  | zero => exact fun _ => .inl ⟨rfl, fun j h => absurd h (by omega)⟩
  | succ i ih =>
    intro hi
    unfold upto
    by_cases hp : t.getD i [] <+: b
    · rw [if_pos hp]
      rcases ih (by omega) with ⟨e, hn⟩ | ⟨k, e, hk, hkp, hm⟩
      · refine .inr ⟨i, by rw [e], by omega, hp, fun j hj hjp => ?_⟩
        rcases Nat.lt_or_ge j i with hlt | hge
        · exact absurd hjp (hn j hlt)
        · obtain rfl : j = i := by omega
          exact Nat.le_refl _
      · rw [e]
        simp only
        by_cases hlt : (t.getD k []).length < (t.getD i []).length
        · rw [if_pos hlt]
          refine .inr ⟨i, rfl, by omega, hp, fun j hj hjp => ?_⟩
          rcases Nat.lt_or_ge j i with h | h
          · exact Nat.le_trans (hm j h hjp) (Nat.le_of_lt hlt)
          · obtain rfl : j = i := by omega
            exact Nat.le_refl _
        · rw [if_neg hlt]
          refine .inr ⟨k, rfl, by omega, hkp, fun j hj hjp => ?_⟩
          rcases Nat.lt_or_ge j i with h | h
          · exact hm j h hjp
          · obtain rfl : j = i := by omega
            omega
    · rw [if_neg hp]
      rcases ih (by omega) with ⟨e, hn⟩ | ⟨k, e, hk, hkp, hm⟩
      · refine .inl ⟨e, fun j hj => ?_⟩
        rcases Nat.lt_or_ge j i with h | h
        · exact hn j h
        · obtain rfl : j = i := by omega
          exact hp
      · refine .inr ⟨k, e, by omega, hkp, fun j hj hjp => ?_⟩
        rcases Nat.lt_or_ge j i with h | h
        · exact hm j h hjp
        · obtain rfl : j = i := by omega
          exact absurd hjp hp
theorem longest_is (t : List (List UInt8)) (b : List UInt8) : IsLongest t b (longest t b) := by
  rcases upto_is t b t.length (Nat.le_refl _) with ⟨e, hn⟩ | ⟨k, e, hk, hp, hm⟩
  · unfold longest
    rw [e]
    intro s hs
    obtain ⟨j, hj, rfl⟩ := List.mem_iff_getElem.1 hs
    have := hn j hj
    rwa [getD_eq hj] at this
  · unfold longest
    rw [e]
    rw [getD_eq hk] at hp
    refine ⟨hk, hp, fun s hs hsp => ?_⟩
    obtain ⟨j, hj, rfl⟩ := List.mem_iff_getElem.1 hs
    have := hm j hj (by rw [getD_eq hj]; exact hsp)
    rwa [getD_eq hj, getD_eq hk] at this
theorem longest_eq {t : List (List UInt8)} {b : List UInt8} (ht : t.Nodup) {r : Option Nat} (h : IsLongest t b r) : longest t b = r := (longest_is t b).unique ht h
/-- bytes coded -/
def encode (t : List (List UInt8)) (b : List UInt8) : List UInt8 :=
  match b with
  | [] => []
  | c :: r => match longest t (c :: r) with
    | none => 255 :: c :: encode t r
    | some k => UInt8.ofNat k :: encode t (r.drop ((t.getD k []).length - 1))
termination_by b.length
decreasing_by all_goals (simp_wf; try omega)
theorem encode_nil (t : List (List UInt8)) : encode t [] = [] := by unfold encode; rfl
theorem encode_none {t : List (List UInt8)} {c : UInt8} {r : List UInt8} (h : longest t (c :: r) = none) : encode t (c :: r) = 255 :: c :: encode t r := by
  rw [encode]; simp only [h]
theorem encode_some {t : List (List UInt8)} {b : List UInt8} {k : Nat} (h : longest t b = some k) (hb : 1 ≤ (t.getD k []).length) : encode t b = UInt8.ofNat k :: encode t (b.drop (t.getD k []).length) := by
  cases b with
  | nil =>
    have := longest_is t []
    rw [h] at this
    obtain ⟨hk, hp, _⟩ := this
    rw [getD_eq hk] at hb
    have := hp.length_le
    simp at this
    rw [this] at hb
    simp at hb
  | cons c r =>
    rw [encode]
    simp only [h]
    obtain ⟨m, hm⟩ : ∃ m, (t.getD k []).length = m + 1 := ⟨(t.getD k []).length - 1, by omega⟩
    rw [hm, Nat.add_sub_cancel, List.drop_succ_cons]
theorem encode_long (t : List (List UInt8)) (ht : ∀ s ∈ t, 2 ≤ s.length) : ∀ (n : Nat) (b : List UInt8), b.length = n → (encode t b).length ≤ 2 * n := by
  intro n
  induction n using Nat.strongRecOn with
  | ind n ih =>
    intro b hb
    match b, hb with
    | [], hb => rw [encode_nil]; simp
    | c :: r, hb =>
      cases h : longest t (c :: r) with
      | none =>
        rw [encode_none h]
        have := ih r.length (by simp at hb; omega) r rfl
        simp at hb ⊢
        omega
      | some k =>
        have hl := longest_is t (c :: r)
        rw [h] at hl
        obtain ⟨hk, hp, _⟩ := hl
        have h2 := ht _ (List.getElem_mem hk)
        have hle := hp.length_le
        rw [encode_some h (by rw [getD_eq hk]; omega), getD_eq hk]
        have := ih ((c :: r).drop t[k].length).length (by rw [List.length_drop]; simp at hb ⊢; omega) _ rfl
        rw [List.length_drop] at this
        simp at this hb ⊢
        omega
/-- what the code stands for that bytes begin with, and its size -/
def code (t : List (List UInt8)) : List UInt8 → Option (List UInt8 × Nat)
  | [] => none
  | c :: r => if c.toNat < t.length then some (t.getD c.toNat [], 1) else if c = 255 then match r with
      | [] => none
      | d :: _ => some ([d], 2)
    else none
theorem code_sym {t : List (List UInt8)} {c : UInt8} (r : List UInt8) (h : c.toNat < t.length) : code t (c :: r) = some (t.getD c.toNat [], 1) := if_pos h
theorem code_esc {t : List (List UInt8)} (d : UInt8) (r : List UInt8) (h : t.length ≤ 32) : code t (255 :: d :: r) = some ([d], 2) := by
  have h1 : ¬ (255 : UInt8).toNat < t.length := by simp; omega
  show (if (255 : UInt8).toNat < t.length then _ else _) = _
  rw [if_neg h1]
  rfl
theorem code_size {t : List (List UInt8)} {b s : List UInt8} {k : Nat} (h : code t b = some (s, k)) : 1 ≤ k ∧ k ≤ b.length := by
  unfold code at h
  split at h
  · cases h
  · split at h
    · injection h with h; injection h with h1 h2; subst h2; simp
    · split at h
      · split at h
        · cases h
        · injection h with h; injection h with h1 h2; subst h2; simp
      · cases h
theorem code_long {t : List (List UInt8)} (ht : ∀ s ∈ t, s.length ≤ 8) {b s : List UInt8} {k : Nat} (h : code t b = some (s, k)) : s.length ≤ 8 := by
  unfold code at h
  split at h
  · cases h
  · split at h
    · rename_i hc
      injection h with h; injection h with h1 h2; subst h1
      rw [getD_eq hc]
      exact ht _ (List.getElem_mem hc)
    · split at h
      · split at h
        · cases h
        · injection h with h; injection h with h1 h2; subst h1; simp
      · cases h
/-- what coded bytes stand for, behind what stands there: the bytes, the error -/
def decode (t : List (List UInt8)) (most : Int) (out b : List UInt8) : List UInt8 × Nat :=
  match b with
  | [] => (out, 0)
  | c :: r => match code t (c :: r) with
    | none => ([], 2)
    | some (s, k) => if most - out.length < s.length then ([], 5) else decode t most (out ++ s) (r.drop (k - 1))
termination_by b.length
decreasing_by all_goals (simp_wf; try omega)
theorem decode_nil (t : List (List UInt8)) (most : Int) (out : List UInt8) : decode t most out [] = (out, 0) := by unfold decode; rfl
theorem decode_none {t : List (List UInt8)} {most : Int} {out b : List UInt8} (hb : b ≠ []) (h : code t b = none) : decode t most out b = ([], 2) := by
  cases b with
  | nil => exact absurd rfl hb
  | cons c r => rw [decode]; simp only [h]
theorem decode_some {t : List (List UInt8)} {most : Int} {out b s : List UInt8} {k : Nat} (h : code t b = some (s, k)) :
    decode t most out b = if most - out.length < s.length then ([], 5) else decode t most (out ++ s) (b.drop k) := by
  have hk := code_size h
  cases b with
  | nil => cases h
  | cons c r =>
    rw [decode]
    simp only [h]
    obtain ⟨m, rfl⟩ : ∃ m, k = m + 1 := ⟨k - 1, by omega⟩
    rw [Nat.add_sub_cancel, List.drop_succ_cons]
/-- decoded at once -/
def decoded (t : List (List UInt8)) (b : List UInt8) (most : Int) : List UInt8 × Nat := if Formed t ∧ 0 ≤ most then decode t most [] b else ([], 1)
/-- encoded at once -/
def encoded (t : List (List UInt8)) (b : List UInt8) : List UInt8 × Nat := if Formed t then (encode t b, 0) else ([], 1)
/-- what is coded stands for what it was -/
theorem decode_encode {t : List (List UInt8)} (ht : Formed t) (most : Int) : ∀ (n : Nat) (b out : List UInt8), b.length = n → (out.length + b.length : Int) ≤ most → decode t most out (encode t b) = (out ++ b, 0) := by
  obtain ⟨h32, hlen, hnd⟩ := ht
  intro n
  induction n using Nat.strongRecOn with
  | ind n ih =>
    intro b out hb hm
    match b, hb with
    | [], _ => rw [encode_nil, decode_nil, List.append_nil]
    | c :: r, hb =>
      cases h : longest t (c :: r) with
      | none =>
        rw [encode_none h]
        have hc : code t (255 :: c :: encode t r) = some ([c], 2) := code_esc c _ h32
        rw [decode_some hc, if_neg (by simp at hm ⊢; omega)]
        have := ih r.length (by simp at hb; omega) r (out ++ [c]) rfl (by simp at hm ⊢; omega)
        simpa using this
      | some k =>
        have hl := longest_is t (c :: r)
        rw [h] at hl
        obtain ⟨hk, hp, _⟩ := hl
        have h2 := (hlen _ (List.getElem_mem hk)).1
        have hle := hp.length_le
        rw [encode_some h (by rw [getD_eq hk]; omega), getD_eq hk]
        have hto : (UInt8.ofNat k).toNat = k := by rw [Num.toNat_ofNat]; omega
        have hc : code t (UInt8.ofNat k :: encode t ((c :: r).drop t[k].length)) = some (t[k], 1) := by
          rw [code_sym _ (by rw [hto]; exact hk), hto, getD_eq hk]
        rw [decode_some hc, if_neg (by simp at hm hle ⊢; omega)]
        have e : (UInt8.ofNat k :: encode t ((c :: r).drop t[k].length)).drop 1 = encode t ((c :: r).drop t[k].length) := rfl
        rw [e]
        rw [ih ((c :: r).drop t[k].length).length (by rw [List.length_drop]; simp at hb ⊢; omega) _ (out ++ t[k]) rfl (by rw [List.length_append, List.length_drop]; simp at hm hle ⊢; omega)]
        have : t[k] ++ (c :: r).drop t[k].length = c :: r := by
          have e2 := List.prefix_iff_eq_take.1 hp
          conv => lhs; lhs; rw [e2]
          exact List.take_append_drop _ _
        rw [List.append_assoc, this]
end Go.Proofs.YtoebeibmmclhpaaGreat.Sym

/- The pieces of samples, and how often each comes: plain. -/
namespace Go.Proofs.YtoebeibmmclhpaaGreat.Sym
/-- the first k pieces that begin at place i -/
def posK (s : List UInt8) (i k : Nat) : List (List UInt8) := (List.range k).map fun j => (s.drop i).take (j + 2)
/-- how many begin there -/
def nAt (s : List UInt8) (i : Nat) : Nat := min 8 (s.length - i) - 1
/-- the pieces that begin ahead of place i -/
def occTo (s : List UInt8) : Nat → List (List UInt8)
  | 0 => []
  | i + 1 => occTo s i ++ posK s i (nAt s i)
/-- all pieces of a text -/
def occ (s : List UInt8) : List (List UInt8) := occTo s s.length
/-- how many letters texts have -/
def tot (l : List (List UInt8)) : Nat := (l.map List.length).sum
/-- the pieces of samples, so many letters of them -/
def pieces : List (List UInt8) → Nat → List (List UInt8)
  | [], _ => []
  | s :: r, left => occ (s.take left) ++ pieces r (left - s.length)
theorem posK_zero (s : List UInt8) (i : Nat) : posK s i 0 = [] := rfl
theorem posK_step (s : List UInt8) (i k : Nat) : posK s i (k + 1) = posK s i k ++ [(s.drop i).take (k + 2)] := by
  unfold posK
  rw [List.range_succ, List.map_append]
  rfl
theorem occTo_step (s : List UInt8) (i : Nat) : occTo s (i + 1) = occTo s i ++ posK s i (nAt s i) := rfl
theorem occ_nil : occ [] = [] := rfl
theorem pieces_zero : ∀ l : List (List UInt8), pieces l 0 = []
  | [] => rfl
  | s :: r => by rw [pieces, List.take_zero, occ_nil, Nat.zero_sub, pieces_zero r]; rfl
theorem tot_append (a b : List (List UInt8)) : tot (a ++ b) = tot a + tot b := by simp [tot]
theorem pieces_append : ∀ (a b : List (List UInt8)) (left : Nat), pieces (a ++ b) left = pieces a left ++ pieces b (left - tot a)
  | [], b, left => by simp [pieces, tot]
  | s :: a, b, left => by
    have e : left - s.length - tot a = left - tot (s :: a) := by
      have : tot (s :: a) = s.length + tot a := by simp [tot]
      omega
    rw [List.cons_append, pieces, pieces_append a b, pieces, List.append_assoc, e]
theorem pieces_snoc (a : List (List UInt8)) (s : List UInt8) (left : Nat) : pieces (a ++ [s]) left = pieces a left ++ occ (s.take (left - tot a)) := by
  rw [pieces_append, pieces, pieces, List.append_nil]
theorem posK_len {s : List UInt8} {i k : Nat} (hk : k ≤ nAt s i) : ∀ p ∈ posK s i k, 2 ≤ p.length ∧ p.length ≤ 8 := by
  intro p hp
  obtain ⟨j, hj, rfl⟩ := List.mem_map.1 hp
  have hj' := List.mem_range.1 hj
  unfold nAt at hk
  rw [List.length_take, List.length_drop]
  omega
theorem posK_length (s : List UInt8) (i k : Nat) : (posK s i k).length = k := by simp [posK]
theorem nAt_le (s : List UInt8) (i : Nat) : nAt s i ≤ 7 := by unfold nAt; omega
theorem occTo_len (s : List UInt8) : ∀ i, ∀ p ∈ occTo s i, 2 ≤ p.length ∧ p.length ≤ 8
  | 0, p, hp => by cases hp
  | i + 1, p, hp => by
    rw [occTo_step] at hp
    rcases List.mem_append.1 hp with h | h
    · exact occTo_len s i p h
    · exact posK_len (Nat.le_refl _) p h
theorem occTo_length (s : List UInt8) : ∀ i, (occTo s i).length ≤ 7 * i
  | 0 => by simp [occTo]
  | i + 1 => by
    have := occTo_length s i
    have := nAt_le s i
    rw [occTo_step, List.length_append, posK_length]
    omega
theorem pieces_len : ∀ (l : List (List UInt8)) (left : Nat), ∀ p ∈ pieces l left, 2 ≤ p.length ∧ p.length ≤ 8
  | [], _, p, hp => by cases hp
  | s :: r, left, p, hp => by
    rw [pieces] at hp
    rcases List.mem_append.1 hp with h | h
    · exact occTo_len _ _ p h
    · exact pieces_len r _ p h
theorem pieces_length : ∀ (l : List (List UInt8)) (left : Nat), (pieces l left).length ≤ 7 * left
  | [], _ => by simp [pieces]
  | s :: r, left => by
    have h1 := pieces_length r (left - s.length)
    have h2 := occTo_length (s.take left) (s.take left).length
    rw [pieces, List.length_append]
    unfold occ
    rw [List.length_take] at h2
    rw [List.length_take]
    omega
/-- what a map tells that counts the texts of a list -/
def cnt (P : List (List UInt8)) (s : List UInt8) : Option Int := if s ∈ P then some (P.count s : Int) else none
theorem cnt_get (P : List (List UInt8)) (s : List UInt8) : (cnt P s).getD 0 = (P.count s : Int) := by
  unfold cnt
  by_cases h : s ∈ P
  · rw [if_pos h]; rfl
  · rw [if_neg h, List.count_eq_zero_of_not_mem h]; rfl
theorem cnt_step (P : List (List UInt8)) (p : List UInt8) : (fun s => if s = p then some ((P.count p : Int) + 1) else cnt P s) = cnt (P ++ [p]) := by
  funext s
  unfold cnt
  by_cases h : s = p
  · subst h
    rw [if_pos rfl, if_pos (List.mem_append.2 (.inr (List.mem_singleton.2 rfl))), List.count_append]
    simp
  · rw [if_neg h]
    have hm : s ∈ P ++ [p] ↔ s ∈ P := ⟨fun hm => (List.mem_append.1 hm).resolve_right (fun e => h (List.mem_singleton.1 e)), fun hm => List.mem_append.2 (.inl hm)⟩
    by_cases hs : s ∈ P
    · rw [if_pos hs, if_pos (hm.2 hs), List.count_append]
      have : List.count s [p] = 0 := List.count_eq_zero_of_not_mem (fun e => h (List.mem_singleton.1 e))
      rw [this]
      rfl
    · rw [if_neg hs, if_neg (fun h => hs (hm.1 h))]
end Go.Proofs.YtoebeibmmclhpaaGreat.Sym

/- The table of pieces: the order of the candidates, the first of them: plain. -/
namespace Go.Proofs.YtoebeibmmclhpaaGreat.Sym
/-- what a piece is worth -/
def val (P : List (List UInt8)) (s : List UInt8) : Int := ((s.length : Int) - 1) * (P.count s : Int)
/-- does s come ahead of u? -/
def ahead (P : List (List UInt8)) (s u : List UInt8) : Bool := decide (val P u < val P s) || (decide (val P u = val P s) && decide (s < u))
theorem ahead_iff {P : List (List UInt8)} {s u : List UInt8} : ahead P s u = true ↔ val P u < val P s ∨ (val P u = val P s ∧ s < u) := by simp [ahead]
theorem ahead_not {P : List (List UInt8)} {s u : List UInt8} : ahead P s u = false ↔ val P s ≤ val P u ∧ (val P u = val P s → u ≤ s) := by
  rw [← Bool.not_eq_true, ahead_iff]
  constructor
  · intro h
    refine ⟨by omega, fun e => List.not_lt.1 fun hl => h (.inr ⟨e, hl⟩)⟩
  · rintro ⟨h1, h2⟩ (h | ⟨e, hl⟩)
    · omega
    · exact absurd hl (List.not_lt.2 (h2 e))
theorem ahead_irrefl (P : List (List UInt8)) (s : List UInt8) : ahead P s s = false := ahead_not.2 ⟨Int.le_refl _, fun _ => List.le_refl _⟩
theorem ahead_trans {P : List (List UInt8)} {a b c : List UInt8} (h1 : ahead P a b = true) (h2 : ahead P b c = true) : ahead P a c = true := by
  rw [ahead_iff] at *
  rcases h1 with h1 | ⟨e1, l1⟩ <;> rcases h2 with h2 | ⟨e2, l2⟩
  · exact .inl (by omega)
  · exact .inl (by omega)
  · exact .inl (by omega)
  · exact .inr ⟨by omega, List.lt_trans l1 l2⟩
theorem ahead_ntrans {P : List (List UInt8)} {a b c : List UInt8} (h1 : ahead P a b = false) (h2 : ahead P b c = false) : ahead P a c = false := by
  rw [ahead_not] at *
  refine ⟨by omega, fun e => ?_⟩
  have e1 : val P b = val P a := by omega
  have e2 : val P c = val P b := by omega
  exact List.le_trans (h2.2 e2) (h1.2 e1)
theorem ahead_same {P : List (List UInt8)} {a b : List UInt8} (h1 : ahead P a b = false) (h2 : ahead P b a = false) : a = b := by
  rw [ahead_not] at *
  have e : val P b = val P a := by omega
  exact List.le_antisymm (h2.2 e.symm) (h1.2 e)
/-- each once -/
def dedup : List (List UInt8) → List (List UInt8)
  | [] => []
  | s :: r => if s ∈ r then dedup r else s :: dedup r
theorem mem_dedup {s : List UInt8} : ∀ {l : List (List UInt8)}, s ∈ dedup l ↔ s ∈ l
  | [] => Iff.rfl
  | u :: r => by
    unfold dedup
    split
    · rename_i h
      rw [mem_dedup, List.mem_cons]
      exact ⟨.inr, fun h' => h'.elim (fun e => e ▸ h) id⟩
    · rw [List.mem_cons, List.mem_cons, mem_dedup]
theorem nodup_dedup : ∀ l : List (List UInt8), (dedup l).Nodup
  | [] => List.nodup_nil
  | u :: r => by
    unfold dedup
    split
    · exact nodup_dedup r
    · rename_i h
      exact List.nodup_cons.2 ⟨fun h' => h (mem_dedup.1 h'), nodup_dedup r⟩
/-- those that come twice and more -/
def cands (P : List (List UInt8)) : List (List UInt8) := (dedup P).filter fun s => decide (2 ≤ P.count s)
theorem mem_cands {P : List (List UInt8)} {s : List UInt8} : s ∈ cands P ↔ 2 ≤ P.count s := by
  unfold cands
  rw [List.mem_filter, mem_dedup, decide_eq_true_iff]
  refine ⟨fun h => h.2, fun h => ⟨?_, h⟩⟩
  rcases Classical.em (s ∈ P) with hm | hm
  · exact hm
  · rw [List.count_eq_zero_of_not_mem hm] at h; omega
theorem nodup_cands (P : List (List UInt8)) : (cands P).Nodup := (nodup_dedup P).filter _
/-- not behind -/
def leP (P : List (List UInt8)) (s u : List UInt8) : Bool := !ahead P u s
theorem leP_trans (P : List (List UInt8)) : ∀ a b c, leP P a b = true → leP P b c = true → leP P a c = true := fun a b c h1 h2 => by
  unfold leP at *
  rw [Bool.not_eq_true'] at *
  exact ahead_ntrans h2 h1
theorem leP_total (P : List (List UInt8)) : ∀ a b, (leP P a b || leP P b a) = true := fun a b => by
  unfold leP
  rcases h : ahead P b a with _ | _
  · rfl
  · rcases h2 : ahead P a b with _ | _
    · rfl
    · have := ahead_trans h h2
      rw [ahead_irrefl] at this
      cases this
/-- the candidates in their order -/
def srt (P : List (List UInt8)) : List (List UInt8) := (cands P).mergeSort (leP P)
theorem mem_srt {P : List (List UInt8)} {s : List UInt8} : s ∈ srt P ↔ 2 ≤ P.count s := by unfold srt; rw [List.mem_mergeSort, mem_cands]
theorem nodup_srt (P : List (List UInt8)) : (srt P).Nodup := (List.mergeSort_perm (cands P) (leP P)).nodup_iff.2 (nodup_cands P)
theorem srt_pairwise (P : List (List UInt8)) : (srt P).Pairwise fun a b => leP P a b = true := List.pairwise_mergeSort (leP_trans P) (leP_total P) _
/-- candidates, in whatever order they came, come to the same -/
theorem srt_unique {P l : List (List UInt8)} (hn : l.Nodup) (hm : ∀ s, s ∈ l ↔ 2 ≤ P.count s) : l.mergeSort (leP P) = srt P := by
  have hp : l.Perm (cands P) := (List.perm_ext_iff_of_nodup hn (nodup_cands P)).2 fun s => by rw [hm, mem_cands]
  refine List.Perm.eq_of_pairwise (le := fun a b => leP P a b = true) (fun a b _ _ h1 h2 => ?_) (List.pairwise_mergeSort (leP_trans P) (leP_total P) l) (srt_pairwise P) (((List.mergeSort_perm l (leP P)).trans hp).trans (List.mergeSort_perm (cands P) (leP P)).symm)
  unfold leP at h1 h2
  rw [Bool.not_eq_true'] at h1 h2
  exact ahead_same h2 h1
/-- the table -/
def train (P : List (List UInt8)) : List (List UInt8) := (srt P).take 32
theorem train_formed {P : List (List UInt8)} (h : ∀ p ∈ P, 2 ≤ p.length ∧ p.length ≤ 8) : Formed (train P) := by
  refine ⟨by unfold train; rw [List.length_take]; omega, fun s hs => ?_, (nodup_srt P).sublist (List.take_sublist _ _)⟩
  have h2 := mem_srt.1 (List.mem_of_mem_take hs)
  refine h s ?_
  rcases Classical.em (s ∈ P) with hm | hm
  · exact hm
  · rw [List.count_eq_zero_of_not_mem hm] at h2; omega
theorem count_mem {P : List (List UInt8)} {s : List UInt8} (h : 2 ≤ P.count s) : s ∈ P := by
  rcases Classical.em (s ∈ P) with hm | hm
  · exact hm
  · rw [List.count_eq_zero_of_not_mem hm] at h; omega
end Go.Proofs.YtoebeibmmclhpaaGreat.Sym

/- What a byte slice holds in a world, and how that is kept: small words for the walks of this seat. -/
namespace Go.Proofs.YtoebeibmmclhpaaGreat
open Go.RowKit
set_option maxRecDepth 100000
/-- a byte as a value -/
def bval (b : UInt8) : Value := .int .u8 (b.toNat : Int)
/-- bytes as cells -/
def bvals (l : List UInt8) : List Value := l.map bval
theorem bvals_length (l : List UInt8) : (bvals l).length = l.length := by simp [bvals]
theorem bvals_append (a b : List UInt8) : bvals (a ++ b) = bvals a ++ bvals b := by simp [bvals]
theorem bvals_one (l : List UInt8) : ∀ u ∈ bvals l, u.oneCell' = true := by
  intro u hu
  obtain ⟨b, _, rfl⟩ := List.mem_map.1 hu
  rfl
theorem addr_add_add (a : Addr) (i j : Nat) : (a.add i).add j = a.add (i + j) := by
  unfold Addr.add
  by_cases hi : i = 0 <;> by_cases hj : j = 0 <;> simp [hi, hj, Nat.add_assoc]
theorem addr_add_block (a : Addr) (i : Nat) : (a.add i).block = a.block := by unfold Addr.add; split <;> rfl
/-- A slice with address A holds the bytes l, in a block below B; of an empty one nothing is asked. -/
def Bytes (w : World) (B : Nat) (A : Option Addr) (l : List UInt8) : Prop :=
  l ≠ [] → ∃ ad, A = some ad ∧ ad.block < B ∧ ∀ i, (h : i < l.length) → w.cell? (ad.add i) = some (bval l[i])
namespace Bytes
variable {w w' : World} {B B' : Nat} {A : Option Addr} {l : List UInt8}
theorem nil (w : World) (B : Nat) (A : Option Addr) : Bytes w B A [] := fun h => absurd rfl h
theorem get (h : Bytes w B A l) {k : Nat} (hk : k < l.length) : ∃ ad, A = some ad ∧ ad.block < B ∧ w.cell? (ad.add k) = some (.int .u8 (l[k].toNat : Int)) := by
  obtain ⟨ad, ha, hb, hc⟩ := h (fun e => by subst e; simp at hk)
  exact ⟨ad, ha, hb, hc k hk⟩
theorem keep (h : Bytes w B A l) (hk : ∀ p : Addr, p.block < B → w'.cell? p = w.cell? p) : Bytes w' B A l := fun hn => by
  obtain ⟨ad, ha, hb, hc⟩ := h hn
  exact ⟨ad, ha, hb, fun i hi => (hk _ (by rw [addr_add_block]; exact hb)).trans (hc i hi)⟩
theorem wide (h : Bytes w B A l) (hB : B ≤ B') : Bytes w B' A l := fun hn => by
  obtain ⟨ad, ha, hb, hc⟩ := h hn
  exact ⟨ad, ha, Nat.lt_of_lt_of_le hb hB, hc⟩
theorem below (h : Bytes w B A l) (hb : Below B w w') : Bytes w' B A l := h.keep fun _ hp => hb.cell hp
theorem news {ad : Addr} (h : Bytes w B (some ad) l) : ∀ j u, (bvals l)[j]? = some u → w.cell? (ad.add j) = some u := by
  intro j u hu
  have hj : j < l.length := by
    rcases Nat.lt_or_ge j l.length with hlt | hge
    · exact hlt
    · rw [List.getElem?_eq_none (by rw [bvals_length]; exact hge)] at hu; cases hu
  obtain ⟨ad', ha, _, hc⟩ := h (fun e => by subst e; simp at hj)
  cases ha
  rw [hc j hj]
  simp [bvals, List.getElem?_eq_getElem hj] at hu
  rw [← hu]
theorem take (h : Bytes w B A l) (k : Nat) : Bytes w B A (l.take k) := fun hn => by
  obtain ⟨ad, ha, hb, hc⟩ := h (fun e => hn (by subst e; simp))
  exact ⟨ad, ha, hb, fun i hi => by rw [List.getElem_take]; exact hc i (by simp at hi; omega)⟩
theorem drop (h : Bytes w B A l) {k cap : Nat} (hk : k ≤ l.length) (hc : l.length ≤ cap) :
    Bytes w B (if cap = k then A else A.map (·.add k)) (l.drop k) := fun hn => by
  have hlt : k < l.length := by
    rcases Nat.lt_or_ge k l.length with hlt | hge
    · exact hlt
    · exact absurd (List.drop_eq_nil_of_le hge) hn
  obtain ⟨ad, rfl, hb, hcell⟩ := h (fun e => by subst e; simp at hlt)
  rw [if_neg (by omega)]
  refine ⟨ad.add k, rfl, by rw [addr_add_block]; exact hb, fun i hi => ?_⟩
  rw [addr_add_add, List.getElem_drop]
  exact hcell _ _
theorem of_own {base e n c : Nat} (h : w.ownsRow base e 1 (.slice A n c) n (bvals l)) : Bytes w w.heap.size A l := fun hn => by
  have hl : l.length = n := by have := h.1; rw [bvals_length] at this; omega
  have h0 : 0 < n := by
    rcases Nat.eq_zero_or_pos n with h0 | h0
    · exact absurd (List.eq_nil_of_length_eq_zero (by omega)) hn
    · exact h0
  obtain ⟨g, cap, hv, _, hlt⟩ := h.form h0
  have hA : A = some ⟨g, 0, none⟩ := by injection hv
  subst hA
  exact ⟨_, rfl, hlt, fun i hi => h.cells (g := g) rfl i _ (by simp [bvals, List.getElem?_eq_getElem hi])⟩
end Bytes
end Go.Proofs.YtoebeibmmclhpaaGreat

/- The block of a slice. -/
namespace Go.Proofs.YtoebeibmmclhpaaGreat
open Go.RowKit
set_option maxRecDepth 100000
/-- the block of a slice -/
def blk (A : Option Addr) : Option Nat := A.map (·.block)
theorem ownBlock_eq (A : Option Addr) (n c : Nat) : (Value.slice A n c).ownBlock = blk A := by cases A <;> rfl
end Go.Proofs.YtoebeibmmclhpaaGreat

/- A byte slice of a call's own: how it is made, appended to, and kept. -/
namespace Go.Proofs.YtoebeibmmclhpaaGreat
open Go.RowKit
set_option maxRecDepth 100000
theorem byte_info : (Tryz.prog.info? 5).map (fun i => (i.zero, i.size, i.bytes)) = some (some (.int .u8 0), 1, 1) := by kernel_rfl
/-- The slice at A, of n bytes, is the bytes l, in a block from 'base' on that nothing else holds. -/
def Own (w : World) (base : Nat) (A : Option Addr) (n c : Nat) (l : List UInt8) : Prop := w.ownsRow base 5 1 (.slice A n c) n (bvals l)
namespace Own
variable {w w' : World} {base : Nat} {A : Option Addr} {n c : Nat} {l : List UInt8}
theorem len (h : Own w base A n c l) : l.length = n := by have := h.1; rw [bvals_length] at this; omega
theorem bytes (h : Own w base A n c l) : Bytes w w.heap.size A l := Bytes.of_own h
theorem lt (h : Own w base A n c l) {k : Nat} (hk : blk A = some k) : base ≤ k ∧ k < w.heap.size := World.ownsRow.lt h k (by rw [ownBlock_eq]; exact hk)
theorem kept {row : Option Nat} (h : Own w base A n c l) (hg : w.grownBy w' row) (hne : blk A = none ∨ blk A ≠ row) : Own w' base A n c l :=
  World.ownsRow.kept h hg (by rw [ownBlock_eq]; exact hne)
theorem drew (h : Own w base A n c l) : Own w.drew base A n c l := h
theorem alloc (h : Own w base A n c l) (o : Obj) : Own (w.alloc o) base A n c l := World.ownsRow.alloc h o
theorem low {b' : Nat} (h : Own w base A n c l) (hb : b' ≤ base) : Own w b' A n c l := by
  refine ⟨h.1, ?_⟩
  rcases h.2 with h2 | ⟨g, cap, cur, h1, h2, r⟩
  · exact .inl h2
  · exact .inr ⟨g, cap, cur, h1, Nat.le_trans hb h2, r⟩
theorem below (h : Own w base A n c l) (hb : Below w.heap.size w w') : Own w' base A n c l := by
  refine ⟨h.1, ?_⟩
  rcases h.2 with h2 | ⟨g, cap, cur, h1, h2, h3, r⟩
  · exact .inl h2
  · have hlt : g < w.heap.size := by
      rcases Nat.lt_or_ge g w.heap.size with hlt | hge
      · exact hlt
      · rw [Array.getElem?_eq_none hge] at h3; cases h3
    exact .inr ⟨g, cap, cur, h1, h2, (hb.block g hlt).trans h3, r⟩
end Own
/-- where it lies, if it isn't empty -/
theorem Own.at_ {w : World} {base : Nat} {A : Option Addr} {n c : Nat} {l : List UInt8} (h : Own w base A n c l) (hn : 0 < n) : ∃ g, A = some ⟨g, 0, none⟩ ∧ base ≤ g ∧ g < w.heap.size := by
  obtain ⟨g, cap, hv, hb, hlt⟩ := World.ownsRow.form h hn
  injection hv with h1
  exact ⟨g, h1, hb, hlt⟩
theorem Own.cell {w : World} {base g : Nat} {n c : Nat} {l : List UInt8} (h : Own w base (some ⟨g, 0, none⟩) n c l) {k : Nat} (hk : k < l.length) : w.cell? ⟨g, k, none⟩ = some (.int .u8 (l[k].toNat : Int)) := by
  have := World.ownsRow.cellAt h k (by rw [Nat.mul_one, ← h.len]; exact hk)
  rw [this]
  simp [bvals, List.getElem?_eq_getElem hk, bval]
theorem Own.free {w : World} {base g : Nat} {n c : Nat} {l : List UInt8} (h : Own w base (some ⟨g, 0, none⟩) n c l) (k : Nat) : w.frozen? ⟨g, k, none⟩ = false := World.ownsRow.frozenAt h k
/-- a byte stored -/
theorem Own.store {w : World} {base g : Nat} {n c : Nat} {l : List UInt8} (h : Own w base (some ⟨g, 0, none⟩) n c l) (k : Nat) (b : UInt8) :
    Own (w.setCell ⟨g, k, none⟩ (bval b)) base (some ⟨g, 0, none⟩) n c (l.set k b) := by
  have := (World.ownsRow.stored h k (bval b)).1
  unfold Own
  rw [show bvals (l.set k b) = (bvals l).set k (bval b) from by simp [bvals]]
  exact this
/-- nil -/
theorem own_none (w : World) (base : Nat) : Own w base none 0 0 [] := World.ownsRow_nil w base _ _
/-- a made slice with nothing in it -/
theorem own_made (w : World) (base : Nat) (cur : Array Value) (cap : Nat) (hb : base ≤ w.heap.size) (hm : cap ≤ maxLen) (hs : cur.size = cap) :
    Own (w.alloc (.cells cur 5)) base (some ⟨w.heap.size, 0, none⟩) 0 cap [] := World.ownsRow_made w cur cap hb hm (by omega)
/-- a literal -/
theorem own_lit (w : World) (base : Nat) (l : List UInt8) (hb : base ≤ w.heap.size) (hm : l.length ≤ maxLen) :
    Own (w.alloc (.cells (bvals l).toArray 5)) base (some ⟨w.heap.size, 0, none⟩) l.length l.length l := by
  have h := World.ownsRow_lit (e := 5) (size := 1) w (bvals l).toArray l.length hb hm (by simp [bvals])
  exact h
set_option maxRecDepth 100000 in
theorem run_append_bytes (w : World) (base : Nat) (ty : TypeId) (A : Option Addr) (n c : Nat) (l : List UInt8) (hown : Own w base A n c l)
    (B : Nat) (A2 : Option Addr) (m c2 : Nat) (l2 : List UInt8) (hl2 : l2.length = m) (hb : Bytes w B A2 l2) (hbytes : n + m ≤ 140737488355328) (hbase : base ≤ w.heap.size) :
    ∃ A' c' w', (Builtin.append_ #[22, 22] ty #[.slice A n c, .slice A2 m c2]).run Tryz.prog w = .ok (.slice A' (n + m) c') w' ∧
      Own w' base A' (n + m) c' (l ++ l2) ∧ w.grownBy w' (blk A) ∧ (blk A' = blk A ∨ blk A' = some w.heap.size) := by
  obtain ⟨i0, hi0, hz0, hz1, hz2⟩ := info_parts byte_info
  rcases A2 with _ | ad
  · have hm : l2 = [] := by
      rcases Classical.em (l2 = []) with h | h
      · exact h
      · obtain ⟨_, h, _⟩ := hb h; cases h
    subst hm
    obtain rfl : 0 = m := by simpa using hl2
    refine ⟨A, c, w, ?_, by simpa using hown, World.grownBy.refl w _, .inl rfl⟩
    rcases hown.2 with ⟨hv, rfl⟩ | ⟨g, cap, cur, hv, _, _, hnc, _⟩
    · injection hv with h1 _ h3
      subst h1 h3
      simp [Builtin.append_, run_underlying Tryz.underlying22, sizeOf, typeInfo, hi0, Builtin.lenOf, Builtin.firstCells]
    · injection hv with h1 h2 h3
      subst h1 h3
      simp [Builtin.append_, run_underlying Tryz.underlying22, sizeOf, typeInfo, hi0, Builtin.lenOf, Builtin.firstCells, hnc, storeCells]
  · obtain ⟨v', w', hrun, h2, h3, _, h5⟩ := run_append_own_at (P := Tryz.prog) w base 22 ty 5 i0 _ 1 1 Tryz.underlying22 hi0 hz0 hz1 hz2 rfl (by omega) (.slice A n c) n (bvals l) hown
      ad m c2 (bvals l2) (by rw [bvals_length]; omega) hb.news (bvals_one l2) (by simp only [maxLen]; omega) (by omega) hbase
    rw [← bvals_append] at h2
    rw [ownBlock_eq] at h3 h5
    rcases h2.2 with ⟨rfl, h0⟩ | ⟨g, cap, cur, rfl, _⟩
    · refine ⟨none, 0, w', ?_, ?_, h3, h5⟩
      · rw [h0]; exact hrun
      · unfold Own; rw [h0] at h2 ⊢; exact h2
    · exact ⟨_, cap, w', hrun, h2, h3, h5⟩
theorem wpList_append_bytes {w : World} {ops : Array Oper} {rest : List Oper} {o : Oper} {a : Act} {Q : Exit → Act → World → Prop} (hw : Region.wanted o (yielded ops a.tmps) = true) (s x : Operand)
    (ho : o.op = .call { callee := .builtin .append, args := #[s, x], argTypes := #[22, 22] })
    (base : Nat) (A : Option Addr) (n c : Nat) (l : List UInt8) (hs : a.eval s = .slice A n c) (hown : Own w base A n c l)
    (B : Nat) (A2 : Option Addr) (m c2 : Nat) (l2 : List UInt8) (hx : a.eval x = .slice A2 m c2) (hl2 : l2.length = m) (hb : Bytes w B A2 l2) (hbytes : n + m ≤ 140737488355328) (hbase : base ≤ w.heap.size)
    (h : ∀ A' c' w', Own w' base A' (n + m) c' (l ++ l2) → w.grownBy w' (blk A) → (blk A' = blk A ∨ blk A' = some w.heap.size) → wpList Tryz.prog ops Q rest (a.put o.dst (.slice A' (n + m) c')) w') :
    wpList Tryz.prog ops Q (o :: rest) a w := by
  obtain ⟨A', c', w', hrun, h2, h3, h4⟩ := run_append_bytes w base o.type A n c l hown B A2 m c2 l2 hl2 hb hbytes hbase
  refine wpList_step fun K hK => ?_
  rw [if_pos hw]
  unfold Oper.wp execOp
  simp only [ho, resolve, invoke, builtin, Sem.run_bind, Sem.run_pure, Result.andThen_ok, List.map_toArray, List.map_cons, List.map_nil, hs, hx, hrun]
  exact hK _ _ (h A' c' w' h2 h3 h4)
end Go.Proofs.YtoebeibmmclhpaaGreat

/- A byte slice of one's own with room: made, and appended to in its place. -/
namespace Go.Proofs.YtoebeibmmclhpaaGreat
open Go.RowKit
set_option maxRecDepth 100000
theorem run_make_bytes (c : Nat) (hc : c ≤ 281474976710656) (u : World) :
    (Instr.makeSlice 22 (.int .i64 0) (.int .i64 (c : Int))).run Tryz.prog u = .ok (.slice (some ⟨u.heap.size, 0, none⟩) 0 c) (u.alloc (.cells (madeCells #[.int .u8 0] c) 5)) := by
  obtain ⟨i0, hi, hz0, hz1, hz2⟩ := info_parts byte_info
  have h := run_make (P := Tryz.prog) u 22 5 i0 (.int .u8 0) Tryz.underlying22 hi hz0 .i64 .i64 0 (c : Int) (by omega) (by omega) (by rw [hz2]; omega) (by omega)
  simpa [hz1, Value.cells] using h
theorem bval_ofNat (x : Nat) : bval (UInt8.ofNat x) = .int .u8 ((x : Int) % 256) := by
  unfold bval
  rw [UInt8.toNat_ofNat']
  exact congrArg _ (by omega)
theorem bval_small {x : Nat} (h : x < 256) : bval (UInt8.ofNat x) = .int .u8 (x : Int) := by
  rw [bval_ofNat]
  exact congrArg _ (by omega)
/-- a literal of one byte -/
theorem own_one (w : World) (b : UInt8) (z : Int) (h : bval b = .int .u8 z) : Own (w.alloc (.cells #[.int .u8 z] 5)) w.heap.size (some ⟨w.heap.size, 0, none⟩) 1 1 [b] := by
  have := own_lit w w.heap.size [b] (Nat.le_refl _) (by simp only [maxLen, List.length_singleton]; omega)
  simp only [bvals, List.map_cons, List.map_nil, h] at this
  exact this
set_option maxRecDepth 100000 in
theorem run_append_fit (w : World) (base : Nat) (ty : TypeId) (g n c : Nat) (l : List UInt8) (hown : Own w base (some ⟨g, 0, none⟩) n c l)
    (B : Nat) (A2 : Option Addr) (m c2 : Nat) (l2 : List UInt8) (hl2 : l2.length = m) (hb : Bytes w B A2 l2) (hroom : n + m ≤ c) :
    ∃ w', (Builtin.append_ #[22, 22] ty #[.slice (some ⟨g, 0, none⟩) n c, .slice A2 m c2]).run Tryz.prog w = .ok (.slice (some ⟨g, 0, none⟩) (n + m) c) w' ∧
      Own w' base (some ⟨g, 0, none⟩) (n + m) c (l ++ l2) ∧ w.grownBy w' (some g) := by
  obtain ⟨i0, hi0, hz0, hz1, hz2⟩ := info_parts byte_info
  rcases A2 with _ | ad
  · have hm : l2 = [] := by
      rcases Classical.em (l2 = []) with h | h
      · exact h
      · obtain ⟨_, h, _⟩ := hb h; cases h
    subst hm
    obtain rfl : 0 = m := by simpa using hl2
    refine ⟨w, ?_, by simpa using hown, World.grownBy.refl w _⟩
    rcases hown.2 with ⟨hv, rfl⟩ | ⟨g', cap, cur, hv, _, _, hnc, _⟩
    · cases hv
    · injection hv with h1 h2 h3
      subst h3
      simp [Builtin.append_, run_underlying Tryz.underlying22, sizeOf, typeInfo, hi0, Builtin.lenOf, Builtin.firstCells, hnc, storeCells]
  · obtain ⟨w', hrun, h2, h3⟩ := run_append_fits (P := Tryz.prog) w base 22 ty 5 i0 1 Tryz.underlying22 hi0 hz1 g n c (bvals l) hown
      ad m c2 (bvals l2) (by rw [bvals_length]; omega) hb.news (bvals_one l2) hroom
    rw [← bvals_append] at h2
    exact ⟨w', hrun, h2, h3⟩
theorem wpList_append_fit {w : World} {ops : Array Oper} {rest : List Oper} {o : Oper} {a : Act} {Q : Exit → Act → World → Prop} (hw : Region.wanted o (yielded ops a.tmps) = true) (s x : Operand)
    (ho : o.op = .call { callee := .builtin .append, args := #[s, x], argTypes := #[22, 22] })
    (base : Nat) (g n c : Nat) (l : List UInt8) (hs : a.eval s = .slice (some ⟨g, 0, none⟩) n c) (hown : Own w base (some ⟨g, 0, none⟩) n c l)
    (B : Nat) (A2 : Option Addr) (m c2 : Nat) (l2 : List UInt8) (hx : a.eval x = .slice A2 m c2) (hl2 : l2.length = m) (hb : Bytes w B A2 l2) (hroom : n + m ≤ c)
    (h : ∀ w', Own w' base (some ⟨g, 0, none⟩) (n + m) c (l ++ l2) → w.grownBy w' (some g) → wpList Tryz.prog ops Q rest (a.put o.dst (.slice (some ⟨g, 0, none⟩) (n + m) c)) w') :
    wpList Tryz.prog ops Q (o :: rest) a w := by
  obtain ⟨w', hrun, h2, h3⟩ := run_append_fit w base o.type g n c l hown B A2 m c2 l2 hl2 hb hroom
  refine wpList_step fun K hK => ?_
  rw [if_pos hw]
  unfold Oper.wp execOp
  simp only [ho, resolve, invoke, builtin, Sem.run_bind, Sem.run_pure, Result.andThen_ok, List.map_toArray, List.map_cons, List.map_nil, hs, hx, hrun]
  exact hK _ _ (h w' h2 h3)
/-- where it lies -/
theorem Own.block {w : World} {base g n c : Nat} {l : List UInt8} (h : Own w base (some ⟨g, 0, none⟩) n c l) : base ≤ g ∧ g < w.heap.size := h.lt rfl
theorem Own.cap {w : World} {base n c : Nat} {A : Option Addr} {l : List UInt8} (h : Own w base A n c l) : n ≤ c := by
  rcases h.2 with ⟨hv, hn⟩ | ⟨g', cap, cur, hv, _, _, hnc, _⟩
  · omega
  · injection hv with h1 h2 h3
    omega
theorem Own.size {w : World} {base g n c : Nat} {l : List UInt8} (h : Own w base (some ⟨g, 0, none⟩) n c l) : base ≤ w.heap.size := by have := h.block; omega
end Go.Proofs.YtoebeibmmclhpaaGreat

/- dragnetref01.Copy: a new slice of the same bytes. -/
namespace Go.Proofs.YtoebeibmmclhpaaGreat
open Go.RowKit
set_option maxRecDepth 100000
/-- what a call leaves that returns a byte slice of its own (or of its caller's), in a block from 'base' on: just these bytes; all below 'base' is as it was -/
def MadeAt (base : Nat) (w : World) (n : Nat) (l : List UInt8) (e : Ending) (w' : World) : Prop :=
  ∃ A c, e = .returned (.slice A n c) ∧ Own w' base A n c l ∧ Below base w w'
theorem copy_any (A : Option Addr) (n cap B : Nat) (l : List UInt8) (w : World) (hl : l.length = n) (hn : n ≤ 140737488355328) (hb : Bytes w B A l) (hB : B ≤ w.heap.size) :
    Calls Tryz.prog 9 #[.slice A n cap] w (MadeAt w.heap.size w n l) := by
  have Hl := Lib.hid hl; clear hl
  go_enter Tryz.func9, Tryz.ntmps9
  have hb1 : Bytes (w.alloc (.cells #[] 5)) B A l := hb.below ((Below.refl _ _).alloc hB _)
  have ho1 : Own (w.alloc (.cells #[] 5)) w.heap.size (some ⟨w.heap.size, 0, none⟩) 0 0 [] := own_made w w.heap.size #[] 0 (Nat.le_refl _) (by simp only [maxLen]; omega) rfl
  have hbel : Below w.heap.size w (w.alloc (.cells #[] 5)) := (Below.refl _ _).alloc (Nat.le_refl _) _
  clear hb
  go_wp2_with (at_builtin; refine wpList_append_bytes rfl (.tmp 3) (.tmp 4) rfl w.heap.size _ 0 0 [] rfl ho1 B A n cap l rfl Hl.out hb1 (by omega) (by simp) ?_; intro A1 c1 w1 ho2 hg2 hat2)
  go_ret
  rw [Nat.zero_add] at ho2
  refine ⟨A1, c1, by simp, ho2, hbel.grown hg2 (by simp) ?_⟩
  intro k hk
  simp [blk] at hk
  omega
end Go.Proofs.YtoebeibmmclhpaaGreat

/- Pieces of a byte slice. -/
namespace Go.Proofs.YtoebeibmmclhpaaGreat
open Go.RowKit
set_option maxRecDepth 100000
theorem size8 (W : World) : (sizeOf 5).run Tryz.prog W = .ok 1 W := by
  obtain ⟨i0, hi0, hz0, hz1, hz2⟩ := info_parts byte_info
  simp [sizeOf, typeInfo, hi0, hz1]
theorem elem22 : Tryz.prog.elem 22 = 5 := by kernel_rfl
/-- where a piece that begins at lo lies -/
def cutAt (A : Option Addr) (cap lo : Nat) : Option Addr := if cap = lo then A else A.map (·.add lo)
theorem run_cut_lh (A : Option Addr) (n cap lo hi : Nat) (h1 : lo ≤ hi) (h2 : hi ≤ cap) (W : World) :
    (Instr.slice 22 (.slice A n cap) (some (.int .i64 (lo : Int))) (some (.int .i64 (hi : Int))) none).run Tryz.prog W = .ok (.slice (cutAt A cap lo) (hi - lo) (cap - lo)) W := by
  rw [run_slice_lh (P := Tryz.prog) (w := W) (kl := .i64) (kh := .i64) (l := (lo : Int)) (h := (hi : Int)) (h0 := by omega) (h1 := by omega) (h2 := by omega) (ht := by rw [elem22]; exact Tryz.underlying22)]
  rw [elem22, size8]
  simp [Result.andThen, sliced, cutAt]
theorem run_cut_h (A : Option Addr) (n cap hi : Nat) (h2 : hi ≤ cap) (W : World) :
    (Instr.slice 22 (.slice A n cap) none (some (.int .i64 (hi : Int))) none).run Tryz.prog W = .ok (.slice A hi cap) W := by
  rw [run_slice_h (P := Tryz.prog) (w := W) (kh := .i64) (h := (hi : Int)) (h0 := by omega) (h2 := by omega) (ht := by rw [elem22]; exact Tryz.underlying22)]
  rw [elem22, size8]
  by_cases hc : cap = 0 <;> cases A <;> simp [Result.andThen, sliced, Addr.add]
theorem run_cut_l (A : Option Addr) (n cap lo : Nat) (h1 : lo ≤ n) (W : World) :
    (Instr.slice 22 (.slice A n cap) (some (.int .i64 (lo : Int))) none none).run Tryz.prog W = .ok (.slice (cutAt A cap lo) (n - lo) (cap - lo)) W := by
  rw [run_slice_l (P := Tryz.prog) (w := W) (kl := .i64) (l := (lo : Int)) (h0 := by omega) (h1 := by omega) (ht := by rw [elem22]; exact Tryz.underlying22)]
  rw [elem22, size8]
  simp [Result.andThen, sliced, cutAt]
theorem Bytes.cut {w : World} {B : Nat} {A : Option Addr} {l : List UInt8} (h : Bytes w B A l) {k cap : Nat} (hk : k ≤ l.length) (hc : l.length ≤ cap) : Bytes w B (cutAt A cap k) (l.drop k) := h.drop hk hc
end Go.Proofs.YtoebeibmmclhpaaGreat

/- Worlds between which only draws lie. -/
namespace Go.Proofs.YtoebeibmmclhpaaGreat
open Go.RowKit
set_option maxRecDepth 100000
theorem below_drewN {B : Nat} {a w : World} (h : Below B a w) (q : Nat) : Below B a (w.drewN q) := ⟨h.os, h.tape, h.output, h.size, h.block⟩
theorem below_of_drew {B : Nat} {w w' : World} (h : Below B w.drew w') : Below B w w' := ⟨h.os, h.tape, h.output, h.size, h.block⟩
theorem Bytes.drewN {w : World} {B : Nat} {A : Option Addr} {l : List UInt8} (h : Bytes w B A l) (q : Nat) : Bytes (w.drewN q) B A l := h
/-- only draws lie between the two worlds -/
def Drawn (w w' : World) : Prop := ∃ q, w' = w.drewN q
theorem Drawn.refl (w : World) : Drawn w w := ⟨0, rfl⟩
theorem Drawn.drewN {w w' : World} (h : Drawn w w') (n : Nat) : Drawn w (w'.drewN n) := by
  obtain ⟨q, rfl⟩ := h
  exact ⟨q + n, World.drewN_drewN _ _ _⟩
theorem Drawn.below {w w' : World} (h : Drawn w w') (B : Nat) : Below B w w' := by
  obtain ⟨q, rfl⟩ := h
  exact below_drewN (Below.refl _ _) q
theorem Drawn.of_drewN {w w' : World} {n : Nat} (h : Drawn (w.drewN n) w') : Drawn w w' := by
  obtain ⟨q, rfl⟩ := h
  exact ⟨n + q, World.drewN_drewN _ _ _⟩
theorem Drawn.trans {w w' w'' : World} (h : Drawn w w') (h2 : Drawn w' w'') : Drawn w w'' := by
  obtain ⟨q, rfl⟩ := h
  exact h2.of_drewN
theorem quiet_left {P : Program} {f : FuncId} {args : Array Value} {w : World} {n : Nat} {v : Value}
    (h : Calls P f args (w.drewN n) fun e w' => e = .returned v ∧ w.drewN n = w') : Calls P f args (w.drewN n) fun e w'' => e = .returned v ∧ ∃ m, w'' = w.drewN m :=
  h.mono fun _ _ ⟨he, hm⟩ => ⟨he, n, hm.symm⟩
end Go.Proofs.YtoebeibmmclhpaaGreat

/- What every law shares, whatever it takes: the program laid out; how much a slice holds. -/
namespace Go.Proofs.YtoebeibmmclhpaaGreat
open Go.ChangeShapes Go.WideShapes Go.ChangeAt Go.RowKit
set_option maxRecDepth 100000
theorem own : ownKnob Tryz.prog.godebug = none := by kernel_rfl
theorem laidOut : laidOutB Tryz.prog = true := by kernel_rfl
end Go.Proofs.YtoebeibmmclhpaaGreat

/- What every law shares: byte slices that come in, how much they hold. -/
namespace Go.Proofs.YtoebeibmmclhpaaGreat
open Go.ChangeShapes Go.WideShapes Go.ChangeAt Go.RowKit
set_option maxRecDepth 100000
theorem cells8 : Tryz.prog.cellsOf 5 = 1 := by kernel_rfl
theorem bytes8 : Tryz.prog.bytesOf 5 = 1 := by kernel_rfl
/-- numbers that fit a byte, as bytes -/
def bytesOfInts (zs : List Int) : List UInt8 := zs.map fun z => UInt8.ofNat z.toNat
theorem byte_of_int {z : Int} (h : (Lit.int .u8 z).wf = true) : ((UInt8.ofNat z.toNat).toNat : Int) = z := by
  have hb := bounds_u8 h
  rw [UInt8.toNat_ofNat']
  omega
/-- A byte slice that came in: its bytes, and how it is read. -/
theorem open_bytes {H : Type} {enc : TypeId × Value → H} {W : World} {a : Option Addr} {len cap : Nat} {d : DataW H} {p : List MemPlace}
    (h : DataW.Trod enc Tryz.prog W 0 (fun _ => true) true 22 (.slice a len cap) d p) :
    ∃ l : List UInt8, l.length = len ∧ len ≤ cap ∧ Bytes W W.heap.size a l ∧ (d = .nil ∧ len = 0 ∨ ∃ elems spare, d = .slice elems spare ∧ elems.length = len) := by
  have hlt : ∀ x ∈ p, x.block < W.heap.size := by obtain ⟨m, hm⟩ := h; exact DataW.trod_lt m _ _ _ hm
  obtain ⟨fuel, hf⟩ := h
  rcases open_ints Tryz.underlying22 Tryz.underlying5 cells8 hf with ⟨hcs, hx⟩ | ⟨x, l, c, zs, hcs, _, hl, hm, hz, hx, hcell, hwz⟩
  · simp [Value.cells] at hcs
    obtain ⟨rfl, rfl, rfl⟩ := hcs
    injection hx with hx1 hx2
    exact ⟨[], rfl, Nat.le_refl _, Bytes.nil _ _ _, .inl ⟨hx1, rfl⟩⟩
  · simp [Value.cells] at hcs
    obtain ⟨rfl, rfl, rfl⟩ := hcs
    injection hx with hx1 hx2
    simp only [if_true] at hz
    refine ⟨bytesOfInts (zs.take len), by simp [bytesOfInts]; omega, hl, fun hn => ⟨x, rfl, ?_, fun i hi => ?_⟩, .inr ⟨_, _, hx1, by simp [lits]; omega⟩⟩
    · have h0 : 0 < zs.length := by
        rcases Nat.eq_zero_or_pos zs.length with h0 | h0
        · have : zs = [] := List.eq_nil_of_length_eq_zero h0
          subst this
          simp [bytesOfInts] at hn
        · exact h0
      have hc0 := hcell 0 h0
      rcases Nat.lt_or_ge x.block W.heap.size with hlt' | hge
      · exact hlt'
      · have : (x.add 0).block = x.block := addr_add_block x 0
        simp [World.cell?, this, Array.getElem?_eq_none hge] at hc0
    · have hi' : i < zs.length := by simp [bytesOfInts] at hi; omega
      have hil : i < len := by simp [bytesOfInts] at hi; omega
      rw [hcell i hi']
      have hw := hwz zs[i] (List.getElem_mem hi')
      simp only [bytesOfInts, List.getElem_map, List.getElem_take, bval, byte_of_int hw]
      simp [List.getD_eq_getElem?_getD, List.getElem?_eq_getElem hi']
/-- THE REACH: a byte slice that came in has fewer than 2^47 bytes. -/
theorem reach_bytes {H : Type} {ts : List TypeId} {ds : List (DataW H)} {j len : Nat} {d : DataW H} (h : (DataW.weightsEach Tryz.prog ts ds).all (· ≤ reachBytes) = true)
    (ht : ts[j]? = some 22) (hd : ds[j]? = some d) (hv : d = .nil ∧ len = 0 ∨ ∃ elems spare, d = .slice elems spare ∧ elems.length = len) : len ≤ 140737488351232 := by
  rcases hv with ⟨_, rfl⟩ | ⟨elems, spare, rfl, rfl⟩
  · omega
  · have := sized_slice h ht hd Tryz.underlying22
    rw [bytes8] at this
    simp only [reachBytes] at this
    omega
end Go.Proofs.YtoebeibmmclhpaaGreat

/- Slices of byte slices with what each may hold: in a world, and those that come in. -/
namespace Go.Proofs.YtoebeibmmclhpaaGreat
open Go.ChangeShapes Go.WideShapes Go.ChangeAt Go.RowKit
set_option maxRecDepth 100000
/-- A slice of byte slices with address A holds the texts ls, each within its room, in blocks below B. -/
def Samples (w : World) (B : Nat) (A : Option Addr) (ls : List (List UInt8)) : Prop :=
  ls ≠ [] → ∃ ad, A = some ad ∧ ad.block < B ∧ ∀ i, (h : i < ls.length) → ∃ Ai ci, ls[i].length ≤ ci ∧ w.cell? (ad.add i) = some (.slice Ai ls[i].length ci) ∧ Bytes w B Ai ls[i]
namespace Samples
variable {w w' : World} {B B' : Nat} {A : Option Addr} {ls : List (List UInt8)}
theorem nil (w : World) (B : Nat) (A : Option Addr) : Samples w B A [] := fun h => absurd rfl h
theorem keep (h : Samples w B A ls) (hk : ∀ p : Addr, p.block < B → w'.cell? p = w.cell? p) : Samples w' B A ls := fun hn => by
  obtain ⟨ad, ha, hb, hc⟩ := h hn
  refine ⟨ad, ha, hb, fun i hi => ?_⟩
  obtain ⟨Ai, ci, h0, h1, h2⟩ := hc i hi
  exact ⟨Ai, ci, h0, (hk _ (by rw [addr_add_block]; exact hb)).trans h1, h2.keep hk⟩
theorem below (h : Samples w B A ls) (hb : Below B w w') : Samples w' B A ls := h.keep fun _ hp => hb.cell hp
theorem wide (h : Samples w B A ls) (hB : B ≤ B') : Samples w B' A ls := fun hn => by
  obtain ⟨ad, ha, hb, hc⟩ := h hn
  refine ⟨ad, ha, Nat.lt_of_lt_of_le hb hB, fun i hi => ?_⟩
  obtain ⟨Ai, ci, h0, h1, h2⟩ := hc i hi
  exact ⟨Ai, ci, h0, h1, h2.wide hB⟩
theorem at_ (h : Samples w B A ls) {k : Nat} (hk : k < ls.length) : ∃ ad Ai ci, A = some ad ∧ ad.block < B ∧ ls[k].length ≤ ci ∧ w.cell? (ad.add k) = some (.slice Ai ls[k].length ci) ∧ Bytes w B Ai ls[k] := by
  obtain ⟨ad, ha, hb, hc⟩ := h (fun e => by subst e; simp at hk)
  obtain ⟨Ai, ci, h0, h1, h2⟩ := hc k hk
  exact ⟨ad, Ai, ci, ha, hb, h0, h1, h2⟩
end Samples
theorem cellsOfBytes : Tryz.prog.cellsOf 22 = 1 := by kernel_rfl
theorem bytesOfBytes : Tryz.prog.bytesOf 22 = 24 := by kernel_rfl
/-- a cell that reads as a byte slice -/
theorem open_sample {H : Type} {enc : TypeId × Value → H} {W : World} {fuel : Nat} {cs : List Value} {x : DataW H × List MemPlace}
    (hf : DataW.trod enc Tryz.prog W 0 (fun _ => true) true fuel 22 cs = some x) :
    ∃ (a : Option Addr) (cap : Nat) (l : List UInt8), cs = [.slice a l.length cap] ∧ l.length ≤ cap ∧ Bytes W W.heap.size a l ∧ (l = [] ∨ ∃ es sp, x.1 = .slice es sp ∧ es.length = l.length) := by
  rcases open_ints Tryz.underlying22 Tryz.underlying5 cells8 hf with ⟨hcs, hx⟩ | ⟨a, len, c, zs, hcs, _, hl, hm, hz, hx, hcell, hwz⟩
  · exact ⟨none, 0, [], hcs, by simp, Bytes.nil _ _ _, .inl rfl⟩
  · simp only [if_true] at hz
    have hlen : (bytesOfInts (zs.take len)).length = len := by simp [bytesOfInts]; omega
    refine ⟨some a, c, bytesOfInts (zs.take len), by rw [hlen]; exact hcs, by rw [hlen]; exact hl, fun hn => ⟨a, rfl, ?_, fun i hi => ?_⟩, .inr ⟨_, _, by rw [hx], by rw [hlen]; simp [lits]; omega⟩⟩
    · have h0 : 0 < zs.length := by
        rcases Nat.eq_zero_or_pos zs.length with h0 | h0
        · have : zs = [] := List.eq_nil_of_length_eq_zero h0
          subst this
          simp [bytesOfInts] at hn
        · exact h0
      have hc0 := hcell 0 h0
      rcases Nat.lt_or_ge a.block W.heap.size with hlt' | hge
      · exact hlt'
      · have : (a.add 0).block = a.block := addr_add_block a 0
        simp [World.cell?, this, Array.getElem?_eq_none hge] at hc0
    · have hi' : i < zs.length := by omega
      rw [hcell i hi']
      have hw := hwz zs[i] (List.getElem_mem hi')
      simp only [bytesOfInts, List.getElem_map, List.getElem_take, bval, byte_of_int hw]
      simp [List.getD_eq_getElem?_getD, List.getElem?_eq_getElem hi']
theorem cells_single {w : World} {base : Nat} {a : Addr} {cs : List Value} (h : w.cells? base a 1 = some cs) : ∃ v, cs = [v] ∧ w.cell? a = some v := by
  unfold World.cells? at h
  split at h
  · have e : List.range 1 = [0] := rfl
    rw [e, List.mapM_cons] at h
    simp only [List.mapM_nil, Option.bind_eq_bind, Option.bind_eq_some_iff, Option.pure_def, Option.some.injEq] at h
    obtain ⟨v, hv, _, rfl, rfl⟩ := h
    exact ⟨v, rfl, by simpa [Addr.add] using hv⟩
  · cases h
theorem mem_weightsAll {H : Type} {P : Program} {e : TypeId} {d : DataW H} {n : Nat} (hn : n ∈ d.weights P e) : ∀ {l : List (DataW H)}, d ∈ l → n ∈ DataW.weightsAll P e l
  | [], h => by cases h
  | c :: r, h => by
    rw [DataW.weightsAll, List.mem_append]
    rcases List.mem_cons.1 h with rfl | h
    · exact .inl hn
    · exact .inr (mem_weightsAll hn h)
/-- every weight of a datum that came in is within reach -/
theorem reach_all {H : Type} {ts : List TypeId} {ds : List (DataW H)} {j : Nat} {t : TypeId} {d : DataW H} (h : (DataW.weightsEach Tryz.prog ts ds).all (· ≤ reachBytes) = true) (ht : ts[j]? = some t) (hd : ds[j]? = some d) :
    ∀ n ∈ d.weights Tryz.prog t, n ≤ reachBytes := fun n hn => by
  have := List.all_eq_true.1 h _ (DataW.weights_mem_each ht hd n hn)
  simpa using this
/-- A slice of byte slices that came in: its texts, each of fewer than 2^47 bytes. -/
theorem open_samples {H : Type} {enc : TypeId × Value → H} {W : World} {a : Option Addr} {len cap : Nat} {d : DataW H} {p : List MemPlace}
    (h : DataW.Trod enc Tryz.prog W 0 (fun _ => true) true 23 (.slice a len cap) d p) (hw : ∀ n ∈ d.weights Tryz.prog 23, n ≤ reachBytes) :
    ∃ ls : List (List UInt8), ls.length = len ∧ len ≤ cap ∧ 24 * len ≤ 140737488351232 ∧ Samples W W.heap.size a ls ∧ ∀ s ∈ ls, s.length ≤ 140737488351232 := by
  obtain ⟨fuel, hf⟩ := h
  rcases DataW.trod_slice Tryz.underlying23 hf with ⟨hcs, hx⟩ | ⟨x, l, c, elems, rest, n, _, hcs, hx, hb, hl, hm, hlen, hel, _, _⟩
  · simp [Value.cells] at hcs
    obtain ⟨rfl, rfl, rfl⟩ := hcs
    exact ⟨[], rfl, Nat.le_refl _, by omega, Samples.nil _ _ _, fun s h => absurd h (by simp)⟩
  · simp [Value.cells] at hcs
    obtain ⟨rfl, rfl, rfl⟩ := hcs
    rw [cellsOfBytes] at hel
    injection hx with hx1 hx2
    subst hx1
    have hw0 : ∀ n, n ∈ (((elems.map (·.1)).length + (rest.map (·.1)).length) * Tryz.prog.bytesOf 22 :: (DataW.weightsAll Tryz.prog 22 (elems.map (·.1)) ++ DataW.weightsAll Tryz.prog 22 (rest.map (·.1)))) → n ≤ reachBytes := fun n hn => hw n (by rw [DataW.weights, Tryz.underlying23]; exact hn)
    have hreach : 24 * len ≤ 140737488351232 := by
      have := hw0 _ (List.mem_cons_self ..)
      rw [bytesOfBytes, List.length_map, List.length_map, hlen] at this
      simp only [reachBytes] at this
      omega
    have hat : ∀ i, i < len → ∃ l : List UInt8, (∃ (ai : Option Addr) (ci : Nat), l.length ≤ ci ∧ W.cell? (x.add i) = some (.slice ai l.length ci) ∧ Bytes W W.heap.size ai l) ∧ l.length ≤ 140737488351232 := fun i hi => by
      have he := hel i hi
      rw [List.getElem?_eq_getElem (by omega), Option.bind_eq_some_iff] at he
      obtain ⟨cs, hc1, hc2⟩ := he
      obtain ⟨v, rfl, hv⟩ := cells_single hc1
      obtain ⟨ai, ci, l, e1, e2, e3, e4⟩ := open_sample hc2
      rw [Nat.mul_one] at hv
      injection e1 with e1
      refine ⟨l, ⟨ai, ci, e2, by rw [hv, e1], e3⟩, ?_⟩
      rcases e4 with rfl | ⟨es, sp, ed, el⟩
      · simp
      · have hmem : elems[i].1 ∈ elems.map (·.1) := List.mem_map_of_mem (List.getElem_mem _)
        have := hw0 ((es.length + sp.length) * Tryz.prog.bytesOf 5) (List.mem_cons_of_mem _ (List.mem_append.2 (.inl (mem_weightsAll (d := elems[i].1) (by rw [ed, DataW.weights, Tryz.underlying22]; exact List.mem_cons_self ..) hmem))))
        rw [bytes8] at this
        simp only [reachBytes] at this
        omega
    obtain ⟨f, hfs⟩ := Deep.choose_lt hat
    refine ⟨(List.range len).map f, by simp, hl, hreach, fun hn => ?_, fun s hs => ?_⟩
    · have h0 : 0 < len := by
        rcases Nat.eq_zero_or_pos len with h0 | h0
        · subst h0; simp at hn
        · exact h0
      obtain ⟨⟨a0, c0, _, hc0, _⟩, _⟩ := hfs 0 h0
      have hblk : x.block < W.heap.size := by
        rcases Nat.lt_or_ge x.block W.heap.size with hlt' | hge
        · exact hlt'
        · have : (x.add 0).block = x.block := addr_add_block x 0
          simp [World.cell?, this, Array.getElem?_eq_none hge] at hc0
      refine ⟨x, rfl, hblk, fun i hi => ?_⟩
      have hi' : i < len := by simpa using hi
      obtain ⟨⟨ai, ci, e0, e1, e3⟩, _⟩ := hfs i hi'
      have e : ((List.range len).map f)[i] = f i := by simp
      rw [e]
      exact ⟨ai, ci, e0, e1, e3⟩
    · obtain ⟨i, hi, rfl⟩ := List.mem_map.1 hs
      exact (hfs i (List.mem_range.1 hi)).2
end Go.Proofs.YtoebeibmmclhpaaGreat

/- Slices of one-cell values of any one kind: what they hold in a world, how that is kept; slices of one's own, made, stored into, appended to. -/
namespace Go.Proofs.YtoebeibmmclhpaaGreat
open Go.RowKit
set_option maxRecDepth 100000
/-- A slice with address A holds the values l (each by f), in a block below B; of an empty one nothing is asked. -/
def Row {α : Type} (f : α → Value) (w : World) (B : Nat) (A : Option Addr) (l : List α) : Prop :=
  l ≠ [] → ∃ ad, A = some ad ∧ ad.block < B ∧ ∀ i, (h : i < l.length) → w.cell? (ad.add i) = some (f l[i])
namespace Row
variable {α : Type} {f : α → Value} {w w' : World} {B B' : Nat} {A : Option Addr} {l : List α}
theorem nil (f : α → Value) (w : World) (B : Nat) (A : Option Addr) : Row f w B A [] := fun h => absurd rfl h
theorem none_ (h : Row f w B none l) : l = [] := by
  rcases Classical.em (l = []) with e | e
  · exact e
  · obtain ⟨_, e, _⟩ := h e; cases e
theorem get (h : Row f w B A l) {k : Nat} (hk : k < l.length) : ∃ ad, A = some ad ∧ ad.block < B ∧ w.cell? (ad.add k) = some (f l[k]) := by
  obtain ⟨ad, ha, hb, hc⟩ := h (fun e => by subst e; simp at hk)
  exact ⟨ad, ha, hb, hc k hk⟩
theorem keep (h : Row f w B A l) (hk : ∀ p : Addr, p.block < B → w'.cell? p = w.cell? p) : Row f w' B A l := fun hn => by
  obtain ⟨ad, ha, hb, hc⟩ := h hn
  exact ⟨ad, ha, hb, fun i hi => (hk _ (by rw [addr_add_block]; exact hb)).trans (hc i hi)⟩
theorem wide (h : Row f w B A l) (hB : B ≤ B') : Row f w B' A l := fun hn => by
  obtain ⟨ad, ha, hb, hc⟩ := h hn
  exact ⟨ad, ha, Nat.lt_of_lt_of_le hb hB, hc⟩
theorem below (h : Row f w B A l) (hb : Below B w w') : Row f w' B A l := h.keep fun _ hp => hb.cell hp
theorem drewN (h : Row f w B A l) (q : Nat) : Row f (w.drewN q) B A l := h
theorem news {ad : Addr} (h : Row f w B (some ad) l) : ∀ j u, (l.map f)[j]? = some u → w.cell? (ad.add j) = some u := by
  intro j u hu
  have hj : j < l.length := by
    rcases Nat.lt_or_ge j l.length with hlt | hge
    · exact hlt
    · rw [List.getElem?_eq_none (by rw [List.length_map]; exact hge)] at hu; cases hu
  obtain ⟨ad', ha, _, hc⟩ := h (fun e => by subst e; simp at hj)
  cases ha
  rw [hc j hj]
  simp [List.getElem?_eq_getElem hj] at hu
  rw [← hu]
theorem take (h : Row f w B A l) (k : Nat) : Row f w B A (l.take k) := fun hn => by
  obtain ⟨ad, ha, hb, hc⟩ := h (fun e => hn (by subst e; simp))
  exact ⟨ad, ha, hb, fun i hi => by rw [List.getElem_take]; exact hc i (by simp at hi; omega)⟩
theorem drop (h : Row f w B A l) {k cap : Nat} (hk : k ≤ l.length) (hc : l.length ≤ cap) :
    Row f w B (if cap = k then A else A.map (·.add k)) (l.drop k) := fun hn => by
  have hlt : k < l.length := by
    rcases Nat.lt_or_ge k l.length with hlt | hge
    · exact hlt
    · exact absurd (List.drop_eq_nil_of_le hge) hn
  obtain ⟨ad, rfl, hb, hcell⟩ := h (fun e => by subst e; simp at hlt)
  rw [if_neg (by omega)]
  refine ⟨ad.add k, rfl, by rw [addr_add_block]; exact hb, fun i hi => ?_⟩
  rw [addr_add_add, List.getElem_drop]
  exact hcell _ _
end Row
/-- what a kind of element has: one cell, so many bytes -/
structure Elem {α : Type} (f : α → Value) (t e : TypeId) (bytes : Nat) : Prop where
  one : ∀ x, (f x).oneCell' = true
  under : Tryz.prog.underlying t = some (.slice e)
  info : ∃ i z, Tryz.prog.info? e = some i ∧ i.zero = some z ∧ i.size = 1 ∧ i.bytes = bytes ∧ z.cells.size = 1
/-- The slice at A, of n values, is l, in a block from 'base' on that nothing else holds. -/
def ROwn {α : Type} (f : α → Value) (e : TypeId) (w : World) (base : Nat) (A : Option Addr) (n c : Nat) (l : List α) : Prop := w.ownsRow base e 1 (.slice A n c) n (l.map f)
namespace ROwn
variable {α : Type} {f : α → Value} {e : TypeId} {w w' : World} {base : Nat} {A : Option Addr} {n c : Nat} {l : List α}
theorem nil (f : α → Value) (e : TypeId) (w : World) (base : Nat) : ROwn f e w base none 0 0 [] := World.ownsRow_nil w base e 1
theorem len (h : ROwn f e w base A n c l) : l.length = n := by have := h.1; rw [List.length_map] at this; omega
theorem lt (h : ROwn f e w base A n c l) {k : Nat} (hk : blk A = some k) : base ≤ k ∧ k < w.heap.size := World.ownsRow.lt h k (by rw [ownBlock_eq]; exact hk)
theorem kept {row : Option Nat} (h : ROwn f e w base A n c l) (hg : w.grownBy w' row) (hne : blk A = none ∨ blk A ≠ row) : ROwn f e w' base A n c l :=
  World.ownsRow.kept h hg (by rw [ownBlock_eq]; exact hne)
theorem alloc (h : ROwn f e w base A n c l) (o : Obj) : ROwn f e (w.alloc o) base A n c l := World.ownsRow.alloc h o
theorem low {b' : Nat} (h : ROwn f e w base A n c l) (hb : b' ≤ base) : ROwn f e w b' A n c l := by
  refine ⟨h.1, ?_⟩
  rcases h.2 with h2 | ⟨g, cap, cur, h1, h2, r⟩
  · exact .inl h2
  · exact .inr ⟨g, cap, cur, h1, Nat.le_trans hb h2, r⟩
theorem below (h : ROwn f e w base A n c l) (hb : Below w.heap.size w w') : ROwn f e w' base A n c l := by
  refine ⟨h.1, ?_⟩
  rcases h.2 with h2 | ⟨g, cap, cur, h1, h2, h3, r⟩
  · exact .inl h2
  · have hlt : g < w.heap.size := by
      rcases Nat.lt_or_ge g w.heap.size with hlt | hge
      · exact hlt
      · rw [Array.getElem?_eq_none hge] at h3; cases h3
    exact .inr ⟨g, cap, cur, h1, h2, (hb.block g hlt).trans h3, r⟩
theorem at_ (h : ROwn f e w base A n c l) (hn : 0 < n) : ∃ g, A = some ⟨g, 0, none⟩ ∧ base ≤ g ∧ g < w.heap.size := by
  obtain ⟨g, cap, hv, hb, hlt⟩ := World.ownsRow.form h hn
  injection hv with h1
  exact ⟨g, h1, hb, hlt⟩
theorem cell {g : Nat} (h : ROwn f e w base (some ⟨g, 0, none⟩) n c l) {k : Nat} (hk : k < l.length) : w.cell? ⟨g, k, none⟩ = some (f l[k]) := by
  have := World.ownsRow.cellAt h k (by rw [Nat.mul_one, ← h.len]; exact hk)
  rw [this]
  simp [List.getElem?_eq_getElem hk]
theorem row (h : ROwn f e w base A n c l) : Row f w w.heap.size A l := fun hn => by
  have hl := h.len
  have h0 : 0 < n := by
    rcases Nat.eq_zero_or_pos n with h0 | h0
    · exact absurd (List.eq_nil_of_length_eq_zero (by omega)) hn
    · exact h0
  obtain ⟨g, rfl, _, hlt⟩ := h.at_ h0
  refine ⟨_, rfl, hlt, fun i hi => ?_⟩
  rw [show (⟨g, 0, none⟩ : Addr).add i = ⟨g, i, none⟩ from by by_cases h : i = 0 <;> simp [Addr.add, h]]
  exact h.cell hi
theorem free {g : Nat} (h : ROwn f e w base (some ⟨g, 0, none⟩) n c l) (k : Nat) : w.frozen? ⟨g, k, none⟩ = false := World.ownsRow.frozenAt h k
theorem store {g : Nat} (h : ROwn f e w base (some ⟨g, 0, none⟩) n c l) (k : Nat) (x : α) : ROwn f e (w.setCell ⟨g, k, none⟩ (f x)) base (some ⟨g, 0, none⟩) n c (l.set k x) := by
  have := (World.ownsRow.stored h k (f x)).1
  unfold ROwn
  rw [show (l.set k x).map f = (l.map f).set k (f x) from by simp]
  exact this
theorem cap (h : ROwn f e w base A n c l) : n ≤ c := by
  rcases h.2 with ⟨_, rfl⟩ | ⟨g, cap, cur, hv, _, _, hnc, _⟩
  · omega
  · injection hv with _ _ h3
    omega
theorem block {g : Nat} (h : ROwn f e w base (some ⟨g, 0, none⟩) n c l) : base ≤ g ∧ g < w.heap.size := h.lt rfl
theorem size {g : Nat} (h : ROwn f e w base (some ⟨g, 0, none⟩) n c l) : base ≤ w.heap.size := by have := h.block; omega
/-- a literal -/
theorem lit (w : World) (base : Nat) (l : List α) (hb : base ≤ w.heap.size) (hm : l.length ≤ maxLen) :
    ROwn f e (w.alloc (.cells (l.map f).toArray e)) base (some ⟨w.heap.size, 0, none⟩) l.length l.length l := by
  have h := World.ownsRow_lit (e := e) (size := 1) w (l.map f).toArray l.length hb hm (by simp)
  exact h
/-- a made slice with nothing in it -/
theorem made (w : World) (base : Nat) (cur : Array Value) (cap : Nat) (hb : base ≤ w.heap.size) (hm : cap ≤ maxLen) (hs : cur.size = cap) :
    ROwn f e (w.alloc (.cells cur e)) base (some ⟨w.heap.size, 0, none⟩) 0 cap [] := World.ownsRow_made w cur cap hb hm (by omega)
end ROwn
set_option maxRecDepth 100000 in
theorem run_append_row {α : Type} {f : α → Value} {t e : TypeId} {bytes : Nat} (E : Elem f t e bytes) (w : World) (base : Nat) (ty : TypeId) (A : Option Addr) (n c : Nat) (l : List α) (hown : ROwn f e w base A n c l)
    (B : Nat) (A2 : Option Addr) (m c2 : Nat) (l2 : List α) (hl2 : l2.length = m) (hb : Row f w B A2 l2) (hbytes : (n + m) * bytes ≤ 140737488355328) (hm : n + m ≤ maxLen) (hbase : base ≤ w.heap.size) :
    ∃ A' c' w', (Builtin.append_ #[t, t] ty #[.slice A n c, .slice A2 m c2]).run Tryz.prog w = .ok (.slice A' (n + m) c') w' ∧
      ROwn f e w' base A' (n + m) c' (l ++ l2) ∧ w.grownBy w' (blk A) ∧ (blk A' = blk A ∨ blk A' = some w.heap.size) := by
  obtain ⟨i0, z, hi0, hz0, hz1, hz2, hzc⟩ := E.info
  rcases A2 with _ | ad
  · have hm := hb.none_
    subst hm
    obtain rfl : 0 = m := by simpa using hl2
    refine ⟨A, c, w, ?_, by simpa using hown, World.grownBy.refl w _, .inl rfl⟩
    rcases hown.2 with ⟨hv, rfl⟩ | ⟨g, cap, cur, hv, _, _, hnc, _⟩
    · injection hv with h1 _ h3
      subst h1 h3
      simp [Builtin.append_, run_underlying E.under, sizeOf, typeInfo, hi0, Builtin.lenOf, Builtin.firstCells]
    · injection hv with h1 h2 h3
      subst h1 h3
      simp [Builtin.append_, run_underlying E.under, sizeOf, typeInfo, hi0, Builtin.lenOf, Builtin.firstCells, hnc, storeCells]
  · obtain ⟨v', w', hrun, h2, h3, _, h5⟩ := run_append_own_at (P := Tryz.prog) w base t ty e i0 z 1 bytes E.under hi0 hz0 hz1 hz2 hzc (by omega) (.slice A n c) n (l.map f) hown
      ad m c2 (l2.map f) (by rw [List.length_map]; omega) hb.news (by intro u hu; obtain ⟨x, _, rfl⟩ := List.mem_map.1 hu; exact E.one x) hm hbytes hbase
    rw [← List.map_append] at h2
    rw [ownBlock_eq] at h3 h5
    rcases h2.2 with ⟨rfl, h0⟩ | ⟨g, cap, cur, rfl, _⟩
    · refine ⟨none, 0, w', ?_, ?_, h3, h5⟩
      · rw [h0]; exact hrun
      · unfold ROwn; rw [h0] at h2 ⊢; exact h2
    · exact ⟨_, cap, w', hrun, h2, h3, h5⟩
theorem wpList_append_row {α : Type} {f : α → Value} {t e : TypeId} {bytes : Nat} (E : Elem f t e bytes) {w : World} {ops : Array Oper} {rest : List Oper} {o : Oper} {a : Act} {Q : Exit → Act → World → Prop} (hw : Region.wanted o (yielded ops a.tmps) = true) (s x : Operand)
    (ho : o.op = .call { callee := .builtin .append, args := #[s, x], argTypes := #[t, t] })
    (base : Nat) (A : Option Addr) (n c : Nat) (l : List α) (hs : a.eval s = .slice A n c) (hown : ROwn f e w base A n c l)
    (B : Nat) (A2 : Option Addr) (m c2 : Nat) (l2 : List α) (hx : a.eval x = .slice A2 m c2) (hl2 : l2.length = m) (hb : Row f w B A2 l2) (hbytes : (n + m) * bytes ≤ 140737488355328) (hm : n + m ≤ maxLen) (hbase : base ≤ w.heap.size)
    (h : ∀ A' c' w', ROwn f e w' base A' (n + m) c' (l ++ l2) → w.grownBy w' (blk A) → (blk A' = blk A ∨ blk A' = some w.heap.size) → wpList Tryz.prog ops Q rest (a.put o.dst (.slice A' (n + m) c')) w') :
    wpList Tryz.prog ops Q (o :: rest) a w := by
  obtain ⟨A', c', w', hrun, h2, h3, h4⟩ := run_append_row E w base o.type A n c l hown B A2 m c2 l2 hl2 hb hbytes hm hbase
  refine wpList_step fun K hK => ?_
  rw [if_pos hw]
  unfold Oper.wp execOp
  simp only [ho, resolve, invoke, builtin, Sem.run_bind, Sem.run_pure, Result.andThen_ok, List.map_toArray, List.map_cons, List.map_nil, hs, hx, hrun]
  exact hK _ _ (h A' c' w' h2 h3 h4)
end Go.Proofs.YtoebeibmmclhpaaGreat

/- Slices of strings: what they hold, copied, compared, looked through, and those that come in. -/
namespace Go.Proofs.YtoebeibmmclhpaaGreat
open Go.ChangeShapes Go.WideShapes Go.ChangeAt Go.RowKit
set_option maxRecDepth 100000
/-- a string as a value -/
def sval (l : List UInt8) : Value := .string ⟨l.toArray⟩
theorem string_info : (Tryz.prog.info? 9).map (fun i => (i.zero, i.size, i.bytes)) = some (some (.string ⟨#[]⟩), 1, 16) := by kernel_rfl
theorem elemStr : Elem sval 49 9 16 := ⟨fun _ => rfl, Tryz.underlying49, by
  obtain ⟨i0, hi0, hz0, hz1, hz2⟩ := info_parts string_info
  exact ⟨i0, _, hi0, hz0, hz1, hz2, rfl⟩⟩
/-- A slice with address A holds the strings t, in a block below B. -/
abbrev Strs (w : World) (B : Nat) (A : Option Addr) (t : List (List UInt8)) : Prop := Row sval w B A t
/-- The slice at A, of n strings, is t, in a block from 'base' on that nothing else holds. -/
abbrev SOwn (w : World) (base : Nat) (A : Option Addr) (n c : Nat) (t : List (List UInt8)) : Prop := ROwn sval 9 w base A n c t
end Go.Proofs.YtoebeibmmclhpaaGreat

/- A map of one's own from strings to numbers. -/
namespace Go.Proofs.YtoebeibmmclhpaaGreat
open Go.RowKit Go.Maps Go.WideMaps
set_option maxRecDepth 100000
theorem strLaw : Keyed Tryz.prog 9 := string_keyed Tryz.underlying9
theorem strKey {s : List UInt8} (h : s.length ≤ maxLen) : keyOf Tryz.prog 9 (.string ⟨s.toArray⟩) = some (.string s) := by
  have := keyOf_string_mk (P := Tryz.prog) (s := ⟨s.toArray⟩) Tryz.underlying9 (by rw [ByteArray.size, List.size_toArray]; exact h)
  rw [this]
/-- what a datum says of the string s -/
def SaysS (q : IntKind) (D : DataW Unit) (s : List UInt8) : Option Int → Prop
  | none => Maps.has D (.string s) = false
  | some p => Maps.has D (.string s) = true ∧ D.atKey (.string s) (.lit (.int q 0)) = .lit (.int q p)
/-- block M is a map of at most n strings, that tells f -/
def StrMap (q : IntKind) (e : TypeId) (w : World) (M n : Nat) (f : List UInt8 → Option Int) : Prop :=
  ∃ (D : DataW Unit), w.ownsMap Tryz.prog 9 (plainElem Tryz.prog e) M n D ∧ ∀ s, SaysS q D s (f s)
theorem ne_str {s s' : List UInt8} (h : s ≠ s') : (Lit.string s) ≠ (Lit.string s') := fun e => by
  injection e with e
  exact h e
theorem saysS_put {q : IntKind} {D : DataW Unit} {f : List UInt8 → Option Int} (hD : IsMap D) (h : ∀ s, SaysS q D s (f s)) (s : List UInt8) (v : Int) (s' : List UInt8) :
    SaysS q (D.put (.string s) (.lit (.int q v))) s' (if s' = s then some v else f s') := by
  by_cases e : s' = s
  · subst e
    rw [if_pos rfl]
    exact ⟨has_put_same hD (by simp [WideAt.IsKeyLit]) _, atKey_put_same hD (by simp [WideAt.IsKeyLit]) _ _⟩
  · rw [if_neg e]
    have := h s'
    match f s', this with
    | none, hs => exact (has_put_other (ne_str e) _).trans hs
    | some p, hs => exact ⟨(has_put_other (ne_str e) _).trans hs.1, (atKey_put_other (ne_str e) _ _).trans hs.2⟩
namespace StrMap
variable {q : IntKind} {e : TypeId} {w w' : World} {M n : Nat} {f : List UInt8 → Option Int}
theorem made (q : IntKind) (e : TypeId) (w : World) : StrMap q e (w.alloc (.map #[] 0)) w.heap.size 0 (fun _ => none) :=
  ⟨.map [], World.ownsMap_made _ _ _ _, fun _ => rfl⟩
theorem kept {row : Option Nat} (h : StrMap q e w M n f) (hg : w.grownBy w' row) (hne : some M ≠ row) : StrMap q e w' M n f := by
  obtain ⟨D, ho, hs⟩ := h
  exact ⟨D, ho.kept hg hne, hs⟩
theorem lt (h : StrMap q e w M n f) : M < w.heap.size := by
  obtain ⟨D, ho, _⟩ := h
  exact ho.lt
theorem mono {n' : Nat} (h : StrMap q e w M n f) (hn : n ≤ n') : StrMap q e w M n' f := by
  obtain ⟨D, ho, hs⟩ := h
  exact ⟨D, ho.mono hn, hs⟩
theorem drawn (h : StrMap q e w M n f) (hd : Drawn w w') : StrMap q e w' M n f := by
  obtain ⟨k, rfl⟩ := hd
  exact h
theorem below (h : StrMap q e w M n f) (hb : Below w.heap.size w w') : StrMap q e w' M n f :=
  h.kept (row := none) ⟨hb.os, hb.tape, hb.output, hb.size, fun j hj _ => hb.block j hj⟩ (by simp)
end StrMap
/-- a look-up -/
theorem run_look_strmap {q : IntKind} {e t : TypeId} {w : World} {M n : Nat} {f : List UInt8 → Option Int} (h : StrMap q e w M n f) (ht : Tryz.prog.underlying t = some (.map 9 e)) (he : Tryz.prog.underlying e = some (.int q))
    (hz : ∀ w : World, (zeroValue e).run Tryz.prog w = .ok (.int q 0) w) {s : List UInt8} (hs : s.length ≤ maxLen) :
    (Instr.lookup t (.map (some M)) (.string ⟨s.toArray⟩) true).run Tryz.prog w = .ok (.tuple #[.int q ((f s).getD 0), .bool (f s).isSome]) w := by
  obtain ⟨D, ho, hf⟩ := h
  obtain ⟨v, ps, h1, h2⟩ := ho.look_ok strLaw ht (hz w) (plainElem_int (H := Unit) he (by cases q <;> decide)) (strKey hs)
  obtain ⟨a, rfl, h3, _⟩ := plainElem_int_inv he h2
  have h4 := congrArg Prod.fst h3
  have h5 := hf s
  rw [h1]
  match f s, h5 with
  | none, h5 =>
    change D.atKey _ _ = _ at h4
    rw [atKey_of_not_has h5] at h4
    injection h4 with h4
    injection h4 with _ h4
    rw [h5, ← h4]; rfl
  | some p, h5 =>
    change D.atKey _ _ = _ at h4
    rw [h5.2] at h4
    injection h4 with h4
    injection h4 with _ h4
    rw [h5.1, ← h4]; rfl
/-- .. without ok -/
theorem run_look1_strmap {q : IntKind} {e t : TypeId} {w : World} {M n : Nat} {f : List UInt8 → Option Int} (h : StrMap q e w M n f) (ht : Tryz.prog.underlying t = some (.map 9 e)) (he : Tryz.prog.underlying e = some (.int q))
    (hz : ∀ w : World, (zeroValue e).run Tryz.prog w = .ok (.int q 0) w) {s : List UInt8} (hs : s.length ≤ maxLen) :
    (Instr.lookup t (.map (some M)) (.string ⟨s.toArray⟩) false).run Tryz.prog w = .ok (.int q ((f s).getD 0)) w := by
  obtain ⟨D, ho, hf⟩ := h
  obtain ⟨c, h1, h2, _⟩ := ho.lookup_int strLaw ht he (hz w) (strKey hs)
  rw [h1]
  have h5 := hf s
  match f s, h5 with
  | none, h5 =>
    rw [atKey_of_not_has h5] at h2
    injection h2 with h4
    injection h4 with _ h4
    rw [← h4]; rfl
  | some p, h5 =>
    rw [h5.2] at h2
    injection h2 with h4
    injection h4 with _ h4
    rw [← h4]; rfl
/-- a store -/
theorem run_put_strmap {q : IntKind} {e t : TypeId} {w : World} {M n : Nat} {f : List UInt8 → Option Int} (h : StrMap q e w M n f) (ht : Tryz.prog.underlying t = some (.map 9 e)) (he : Tryz.prog.underlying e = some (.int q))
    (hn : n < maxLen) {s : List UInt8} (hs : s.length ≤ maxLen) {v : Int} (hv : (Lit.int q v).wf = true) :
    ∃ w', (Instr.mapUpdate t (.map (some M)) (.string ⟨s.toArray⟩) (.int q v)).run Tryz.prog w = .ok () w' ∧ StrMap q e w' M (n + 1) (fun s' => if s' = s then some v else f s') ∧ w.grownBy w' (some M) := by
  obtain ⟨D, ho, hf⟩ := h
  obtain ⟨w', h1, h2, h3⟩ := ho.update strLaw ht hn (strKey hs) (plainElem_int (H := Unit) he hv)
  exact ⟨w', h1, ⟨_, h2, saysS_put ho.isMap hf s v⟩, h3⟩
end Go.Proofs.YtoebeibmmclhpaaGreat

/- dragnetref01.Same: are two byte slices alike? -/
namespace Go.Proofs.YtoebeibmmclhpaaGreat
open Go.RowKit
set_option maxRecDepth 100000
theorem run_string_of {w : World} {B : Nat} {A : Option Addr} {l : List UInt8} (hb : Bytes w B A l) (c : Nat) :
    (convert 22 9 (.slice A l.length c)).run Tryz.prog w = .ok (.string ⟨l.toArray⟩) w := by
  rcases A with _ | ad
  · have hl : l = [] := by
      rcases Classical.em (l = []) with h | h
      · exact h
      · obtain ⟨_, h, _⟩ := hb h; cases h
    subst hl
    exact Lib.run_convert_nil_bytes w 22 9 5 c Tryz.underlying22 Tryz.underlying5 Tryz.underlying9
  · refine run_convert_bytes_back w 22 9 5 ad c l Tryz.underlying22 Tryz.underlying5 Tryz.underlying9 fun j hj => ?_
    obtain ⟨ad', h, _, hc⟩ := hb (fun e => by subst e; simp at hj)
    cases h
    exact hc j hj
theorem same_any (A1 A2 : Option Addr) (n1 n2 c1 c2 B1 B2 : Nat) (l1 l2 : List UInt8) (w : World) (hl1 : l1.length = n1) (hl2 : l2.length = n2) (hb1 : Bytes w B1 A1 l1) (hb2 : Bytes w B2 A2 l2) :
    Calls Tryz.prog 11 #[.slice A1 n1 c1, .slice A2 n2 c2] w fun e w' => e = .returned (.bool (l1 == l2)) ∧ w = w' := by
  have h1 := run_string_of hb1 c1
  have h2 := run_string_of hb2 c2
  rw [hl1] at h1
  rw [hl2] at h2
  clear hl1 hl2 hb1 hb2
  go_enter Tryz.func11, Tryz.ntmps11
  go_wp2
  go_ret
  exact ⟨rfl, rfl⟩
end Go.Proofs.YtoebeibmmclhpaaGreat

/- sym.countPieces. -/
namespace Go.Proofs.YtoebeibmmclhpaaGreat
open Go.RowKit Go.Maps
set_option maxRecDepth 100000
theorem zeroI64 (w : World) : (zeroValue 3).run Tryz.prog w = .ok (.int .i64 0) w := by kernel_rfl
/-- block M counts the pieces of a list -/
def Counts (w : World) (M : Nat) (P : List (List UInt8)) : Prop := StrMap .i64 3 w M P.length (Sym.cnt P)
/-- counted once more -/
theorem counts_step {w : World} {M : Nat} {P : List (List UInt8)} (h : Counts w M P) (hP : P.length < 1000000) {p : List UInt8} (hp : p.length ≤ 8) :
    (Instr.lookup 125 (.map (some M)) (.string ⟨p.toArray⟩) false).run Tryz.prog w = .ok (.int .i64 (P.count p : Int)) w ∧
    ∃ w', (Instr.mapUpdate 125 (.map (some M)) (.string ⟨p.toArray⟩) (.int .i64 ((P.count p : Int) + 1))).run Tryz.prog w = .ok () w' ∧ Counts w' M (P ++ [p]) ∧ w.grownBy w' (some M) := by
  have hc : P.count p ≤ P.length := List.count_le_length
  have h1 := run_look1_strmap h Tryz.underlying125 Tryz.underlying3 zeroI64 (s := p) (by unfold maxLen; omega)
  rw [Sym.cnt_get] at h1
  obtain ⟨w', h2, h3, h4⟩ := run_put_strmap h Tryz.underlying125 Tryz.underlying3 (by unfold maxLen; omega) (s := p) (by unfold maxLen; omega) (v := (P.count p : Int) + 1) (WalkArith.wf_i64 ⟨by omega, by omega⟩)
  rw [Sym.cnt_step] at h3
  refine ⟨h1, w', h2, ?_, h4⟩
  unfold Counts
  rw [List.length_append]
  exact h3
set_option maxHeartbeats 4000000 in
theorem countPieces_any (A : Option Addr) (n cap B : Nat) (ss : List (List UInt8)) (w : World) (hl : ss.length = n) (hn : n ≤ 140737488355328) (hs : ∀ s ∈ ss, s.length ≤ 140737488351232) (h1 : Samples w B A ss) (hB : B ≤ w.heap.size) :
    Calls Tryz.prog 101 #[.slice A n cap] w fun e w' => e = .returned (.map (some w.heap.size)) ∧ Counts w' w.heap.size (Sym.pieces ss 1024) ∧ Below w.heap.size w w' := by
  have Hl := Lib.hid hl; clear hl
  have Hs := Lib.hid hs; clear hs
  have h1' := h1.wide hB
  clear h1
  obtain ⟨M, hM⟩ : ∃ M, M = w.heap.size := ⟨_, rfl⟩
  have HM := Lib.hid hM
  have hmm := @run_makeMap Tryz.prog
  go_enter Tryz.func101, Tryz.ntmps101
  go_wp2
  rw [← hM] at h1' ⊢
  clear hmm hM
  go_loopg [4, 12] n (fun g lv i wx => ∃ k : Nat, k + g = n ∧ i = .int .i64 (k : Int) ∧ lv = .int .i64 ((1024 - Sym.tot (ss.take k) : Nat) : Int) ∧ Counts wx M (Sym.pieces (ss.take k) 1024) ∧ Below M w wx)
  case atStart => exact ⟨0, by omega, rfl, rfl, by rw [HM.out]; exact StrMap.made _ _ _, by rw [HM.out]; exact (Below.refl _ _).alloc (Nat.le_refl _) _⟩
  case round =>
    obtain ⟨k, hkg, rfl, rfl, hct, hbel⟩ := hrel
    by_cases hkn : k < n
    · have hkn' : (k : Int) < (n : Int) := by omega
      have hk' : k < ss.length := by rw [Hl.out]; exact hkn
      obtain ⟨ad, Ai, ci, rfl, hadb, hci, hcell, hbi⟩ := (h1'.below hbel).at_ hk'
      have hsl := Hs.out _ (List.getElem_mem hk')
      have hstep := Sym.pieces_snoc (ss.take k) ss[k] 1024
      rw [← List.take_succ_eq_append_getElem hk'] at hstep
      have htot : Sym.tot (ss.take (k + 1)) = Sym.tot (ss.take k) + ss[k].length := by
        rw [List.take_succ_eq_append_getElem hk', Sym.tot_append]
        simp [Sym.tot]
      have HST := Lib.hid hstep
      have HTT : Hid (1024 - Sym.tot (ss.take (k + 1)) = 1024 - Sym.tot (ss.take k) - ss[k].length) := Lib.hid (by omega)
      clear hstep htot
      have hPl := Sym.pieces_length (ss.take k) 1024
      have hL : 1024 - Sym.tot (ss.take k) ≤ 1024 := by omega
      generalize Sym.pieces (ss.take k) 1024 = P at *
      generalize 1024 - Sym.tot (ss.take k) = L at *
      have hml : (ss[k].take L).length = min ss[k].length L := by rw [List.length_take]; omega
      have hbt := hbi.take L
      generalize hx : ss[k] = x at *
      clear hx hbi
      obtain ⟨G, rfl⟩ : ∃ G, G = gk := ⟨_, rfl⟩
      obtain ⟨wx, rfl⟩ : ∃ wx, wx = wr := ⟨_, rfl⟩
      obtain ⟨mm, hmm⟩ : ∃ mm, mm = min x.length L := ⟨_, rfl⟩
      rw [← hmm] at hml
      have hmm1 : mm ≤ 1024 := by omega
      have HLM : Hid (((L : Int) - (mm : Int)) = ((L - x.length : Nat) : Int)) := Lib.hid (by omega)
      have hmci : mm ≤ ci := by omega
      have hLmm : mm ≤ L := by omega
      have hcase : ((x.length : Int) ≤ (L : Int) ∧ x.length = mm) ∨ (¬ ((x.length : Int) ≤ (L : Int)) ∧ L = mm) := by omega
      have hcutA : x.length = mm → ∀ W : World, (Instr.slice 22 (.slice Ai x.length ci) none (some (.int .i64 (x.length : Int))) none).run Tryz.prog W = .ok (.slice Ai mm ci) W := fun e W => by rw [run_cut_h Ai x.length ci x.length hci W, e]
      have hcutB : L = mm → ∀ W : World, (Instr.slice 22 (.slice Ai x.length ci) none (some (.int .i64 (L : Int))) none).run Tryz.prog W = .ok (.slice Ai mm ci) W := fun e W => by rw [run_cut_h Ai x.length ci L (by omega) W, e]
      generalize x.take L = y at *
      have Hml := Lib.hid hml
      have HLM2 : Hid ((1024 - Sym.tot (ss.take (k + 1)) : Nat) = L - x.length) := Lib.hid HTT.out
      clear hmm hml HTT
      rcases hcase with ⟨hxL, hmeq⟩ | ⟨hxL, hmeq⟩
      all_goals
        first | (have hcut := hcutA hmeq) | (have hcut := hcutB hmeq)
        clear hcutA hcutB hmeq
        go_wp2
        go_loopg [28] mm (fun g2 i2 wy => ∃ q : Nat, q + g2 = mm ∧ i2 = .int .i64 (q : Int) ∧ Counts wy M (P ++ Sym.occTo y q) ∧ Below M wx wy)
        case atStart => exact ⟨0, by omega, rfl, by rw [Sym.occTo, List.append_nil]; exact hct, Below.refl _ _⟩
        case round =>
          clear hct hcell hcut
          obtain ⟨q, hqg, rfl, hct, hbq⟩ := hrel
          obtain ⟨G2, rfl⟩ : ∃ G2, G2 = gk := ⟨_, rfl⟩
          obtain ⟨wq, rfl⟩ : ∃ wq, wq = wr := ⟨_, rfl⟩
          by_cases hqm : q < mm
          · have hqm' : (q : Int) < (mm : Int) := by omega
            have HNA : Hid (Sym.nAt y q = min 8 (mm - q) - 1) := Lib.hid (by unfold Sym.nAt; rw [Hml.out])
            have hol := Sym.occTo_length y q
            have HOS := Lib.hid (Sym.occTo_step y q)
            generalize Sym.occTo y q = O at *
            go_wp2
            go_loopg [8] (min 8 (mm - q) - 1) (fun g3 nv wz => ∃ j : Nat, j + g3 = min 8 (mm - q) - 1 ∧ nv = .int .i64 ((j : Int) + 2) ∧ Counts wz M (P ++ (O ++ Sym.posK y q j)) ∧ Below M wx wz)
            case atStart => exact ⟨0, by omega, rfl, by rw [Sym.posK_zero, List.append_nil]; exact hct, hbq⟩
            case round =>
              clear hct hbq
              obtain ⟨j, hjg, rfl, hct, hbz⟩ := hrel
              by_cases hj : j < min 8 (mm - q) - 1
              · have hj8 : (j : Int) + 2 ≤ 8 := by omega
                have hjm : (q : Int) + ((j : Int) + 2) ≤ (mm : Int) := by omega
                have hbz2 := (hbt.below hbz)
                have hbc := (hbz2.cut (k := q) (cap := ci) (by rw [Hml.out]; omega) (by rw [Hml.out]; exact hmci)).take (j + 2)
                have hlc : ((y.drop q).take (j + 2)).length = j + 2 := by rw [List.length_take, List.length_drop, Hml.out]; omega
                have hcv := run_string_of hbc (ci - q)
                rw [hlc] at hcv
                have hcut2 := run_cut_lh Ai mm ci q (q + (j + 2)) (by omega) (by omega)
                rw [show q + (j + 2) - q = j + 2 from by omega, show ((q + (j + 2) : Nat) : Int) = (q : Int) + ((j : Int) + 2) from by omega] at hcut2
                obtain ⟨hlook, w2, hput, hct2, hg2⟩ := counts_step hct (by rw [List.length_append, List.length_append, Sym.posK_length]; omega) (p := (y.drop q).take (j + 2)) (by omega)
                have HPS := Lib.hid (Sym.posK_step y q j)
                have hbz2' : Below M wx w2 := hbz.grown hg2 (Nat.le_of_lt (StrMap.lt hct)) (fun r hr => by cases hr; exact Nat.le_refl _)
                have hcle := List.count_le_length (a := (y.drop q).take (j + 2)) (l := P ++ (O ++ Sym.posK y q j))
                rw [List.length_append, List.length_append, Sym.posK_length] at hcle
                rw [List.append_assoc, List.append_assoc, ← HPS.out] at hct2
                generalize List.count ((y.drop q).take (j + 2)) (P ++ (O ++ Sym.posK y q j)) = C at *
                generalize (y.drop q).take (j + 2) = p at *
                generalize cutAt Ai ci q = A3 at *
                clear hct hbz hbc hbz2 hg2 HPS hlc
                go_wp2
                go_roundg (min 8 (mm - q) - 1 - (j + 1))
                case measure => omega
                case rel => exact ⟨j + 1, by omega, congrArg (Value.int IntKind.i64) (by omega), hct2, hbz2'⟩
              · have hjn : j = Sym.nAt y q := by rw [HNA.out]; omega
                rw [hjn, ← HOS.out] at hct
                by_cases hj8 : (j : Int) + 2 ≤ 8
                · have hjm : ¬ ((q : Int) + ((j : Int) + 2) ≤ (mm : Int)) := by omega
                  clear hjn
                  go_wp2
                  go_roundg (mm - (q + 1))
                  case measure => omega
                  case rel => exact ⟨q + 1, by omega, by go_num, hct, hbz⟩
                · clear hjn
                  go_wp2
                  go_roundg (mm - (q + 1))
                  case measure => omega
                  case rel => exact ⟨q + 1, by omega, by go_num, hct, hbz⟩
          · have hqm' : ¬ ((q : Int) < (mm : Int)) := by omega
            have hq : q = y.length := by rw [Hml.out]; omega
            rw [hq] at hct
            have hct' : Counts wq M (Sym.pieces (ss.take (k + 1)) 1024) := by rw [HST.out]; exact hct
            have hbel' := hbel.trans hbq
            clear hq hct
            go_wp2
            go_roundg (n - (k + 1))
            case measure => omega
            case rel => exact ⟨k + 1, by omega, by go_num, congrArg (Value.int IntKind.i64) (by rw [HLM2.out, ← HLM.out]), hct', hbel'⟩
    · have hkn' : ¬ ((k : Int) < (n : Int)) := by omega
      have HE : Hid (Sym.pieces ss 1024 = Sym.pieces (ss.take k) 1024) := Lib.hid (by rw [List.take_of_length_le (by rw [Hl.out]; omega)])
      go_wp2
      go_ret
      exact ⟨by rw [HM.out]; rfl, by rw [HE.out, ← HM.out]; exact hct, by rw [← HM.out]; exact hbel⟩
end Go.Proofs.YtoebeibmmclhpaaGreat
