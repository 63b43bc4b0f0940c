/- Texts of several layers, one behind the other: Num Plain Sym SymPie Words Blk Own Fits Copy Cuts Draws LawB LawIn Samples Row Strs StrMap BytesEq SymCount. -/
import Derived.Lib.BitFns
import Derived.Test.YtoebeibmmclhpaaProg
import Derived.WalkKit
import Derived.Deep.AppendLies
import Derived.Deep.Draws
import Derived.Maps.AppendAt
import Derived.Lib.Hide
import Derived.OwnWalk
import Derived.KernelRfl
import Derived.Laws.OwnMore
import Derived.WalkSpells
import Derived.WalkLawsBesides
import Derived.Laws.Slices
import Derived.Lib.BufferRead
import Derived.Test.YtoebeibmmclhpaaRows
import Derived.ProofKit
import Derived.OpenShut
import Derived.ChangeOld
import Derived.SizedLaws
import Derived.Deep.DeepHandedRow
import Derived.Lib.LaidTab
import Derived.Deep.Slices
import Derived.SliceStrings
import Derived.Deep.OwnRows
import Derived.Deep.QuietTactic
import Derived.BigQuiet
import Derived.RegionTactic
import Derived.ChangeAlike
import Derived.Maps.OwnSet
import Derived.Laws.IdiomStrings
import Derived.Deep.LoopGhost
/- Numbers as bytes, on natural numbers: plain arithmetic, no program. -/
namespace Go.Proofs.Ytoebeibmmclhpaa.Num
/-- how many bytes hold v -/
def width (v : Nat) : Nat := (Lib.bitLen v + 7) / 8
/-- k bytes of v, the lowest first -/
def le : Nat → Nat → List UInt8
  | 0, _ => []
  | k + 1, v => UInt8.ofNat v :: le k (v / 256)
/-- what bytes come to, the lowest first -/
def val : List UInt8 → Nat
  | [] => 0
  | b :: r => b.toNat + 256 * val r
/-- a number's encoding -/
def num (v : Nat) : List UInt8 := if v ≤ 247 then [UInt8.ofNat v] else UInt8.ofNat (247 + width v) :: le (width v) v
/-- how many bytes it has -/
def size (v : Nat) : Nat := if v ≤ 247 then 1 else 1 + width v
/-- the number that bytes begin with: it, its size, its error -/
def take : List UInt8 → Nat × Nat × Nat
  | [] => (0, 0, 3)
  | b :: r => if b.toNat ≤ 247 then (b.toNat, 1, 0) else if r.length < b.toNat - 247 then (0, 0, 3)
    else if size (val (r.take (b.toNat - 247))) = 1 + (b.toNat - 247) then (val (r.take (b.toNat - 247)), 1 + (b.toNat - 247), 0) else (0, 0, 2)
theorem byte_lt (b : UInt8) : b.toNat < 256 := b.toNat_lt
theorem toNat_ofNat (x : Nat) : (UInt8.ofNat x).toNat = x % 256 := UInt8.toNat_ofNat'
theorem bitLen_pos {v : Nat} (h : 0 < v) (hv : v < 18446744073709551616) : 1 ≤ Lib.bitLen v := by
  rw [Lib.bitLen_half v (by omega) hv]; omega
theorem bitLen_zero : Lib.bitLen 0 = 0 := by decide
theorem width_step {v : Nat} (h : 0 < v) (hv : v < 18446744073709551616) : width v = width (v / 256) + 1 := by
  unfold width
  rcases Nat.lt_or_ge v 256 with hlt | hge
  · have h1 := bitLen_pos h hv
    have h8 := Lib.bitLen_le8 ⟨v, hlt⟩
    simp only at h8
    rw [Nat.div_eq_of_lt hlt, bitLen_zero]
    omega
  · rw [Lib.bitLen_shift8 v hge hv]
    omega
theorem width_le {v k : Nat} (hk : k ≤ 8) (h : v < 256 ^ k) : width v ≤ k := by
  have h2 : v < 2 ^ (8 * k) := by rw [Nat.pow_mul]; exact h
  have := Lib.bitLen_le v (8 * k) (by omega) h2
  unfold width
  omega
theorem width_le8 {v : Nat} (h : v < 18446744073709551616) : width v ≤ 8 := width_le (Nat.le_refl _) h
theorem width_pos {v : Nat} (h : 0 < v) (hv : v < 18446744073709551616) : 1 ≤ width v := by rw [width_step h hv]; omega
theorem le_length (k v : Nat) : (le k v).length = k := by
  induction k generalizing v with
  | zero => rfl
  | succ k ih => simp [le, ih]
theorem le_snoc (k v : Nat) : le (k + 1) v = le k v ++ [UInt8.ofNat (v / 256 ^ k)] := by
  induction k generalizing v with
  | zero => simp [le]
  | succ k ih =>
    rw [le, ih, le, List.cons_append, Nat.div_div_eq_div_mul, Nat.pow_succ, Nat.mul_comm 256]
theorem le_val (l : List UInt8) : le l.length (val l) = l := by
  induction l with
  | nil => rfl
  | cons b r ih =>
    have hb := byte_lt b
    rw [List.length_cons, le, val, show (b.toNat + 256 * val r) / 256 = val r from by omega, ih]
    congr 1
    apply UInt8.toNat_inj.1
    rw [toNat_ofNat]
    omega
theorem size_pos (v : Nat) : 1 ≤ size v := by unfold size; split <;> omega
theorem size_le9 {v : Nat} (h : v < 18446744073709551616) : size v ≤ 9 := by
  have := width_le8 h
  unfold size; split <;> omega
theorem num_length (v : Nat) : (num v).length = size v := by
  unfold num size
  split
  · rfl
  · simp [le_length]; omega
/-- a number, unfolded -/
def unfold (v : Nat) : Int := if v % 2 = 0 then ((v / 2 : Nat) : Int) else -((v / 2 : Nat) : Int) - 1
end Go.Proofs.Ytoebeibmmclhpaa.Num

/- The shift register of CRC-32C on natural numbers: plain arithmetic, no program. It is linear, it is undone step by step, and half a byte may be shifted out by a table. -/
namespace Go.Proofs.Ytoebeibmmclhpaa.Plain
/-- one shift of the register -/
def step (x : Nat) : Nat := if x % 2 = 1 then x / 2 ^^^ 2197175160 else x / 2
def steps : Nat → Nat → Nat
  | 0, x => x
  | n + 1, x => steps n (step x)
/-- the register takes a byte -/
def eat (r : Nat) (b : UInt8) : Nat := steps 8 (r ^^^ b.toNat)
def runs (r : Nat) (l : List UInt8) : Nat := l.foldl eat r
def full : Nat := 4294967295
def sum (l : List UInt8) : Nat := full - runs full l
theorem byte_lt (b : UInt8) : b.toNat < 256 := b.toNat_lt
/-- the table of four shifts -/
def tab : List Nat := [0, 274646895, 549293790, 820201905, 1098587580, 1361435347, 1640403810, 1905808397, 2197175160, 2460548119, 2722870694, 2987750089, 3280807620, 3553878443, 3811616794, 4084100981]
end Go.Proofs.Ytoebeibmmclhpaa.Plain

/- Tables of symbols, on lists of bytes: plain, no program. -/
namespace Go.Proofs.Ytoebeibmmclhpaa.Sym
/-- is it a table? -/
def Formed (t : List (List UInt8)) : Prop := t.length ≤ 32 ∧ (∀ s ∈ t, 2 ≤ s.length ∧ s.length ≤ 8) ∧ t.Nodup
instance (t : List (List UInt8)) : Decidable (Formed t) := inferInstanceAs (Decidable (_ ∧ _ ∧ _))
def formed (t : List (List UInt8)) : Bool := decide (Formed t)
theorem formed_iff {t : List (List UInt8)} : formed t = true ↔ Formed t := by unfold formed; exact decide_eq_true_iff
theorem formed_not {t : List (List UInt8)} : formed t = false ↔ ¬ Formed t := by unfold formed; exact decide_eq_false_iff_not
/-- symbol r is the longest that b begins with; none: it begins with none -/
def IsLongest (t : List (List UInt8)) (b : List UInt8) : Option Nat → Prop
  | none => ∀ s ∈ t, ¬ s <+: b
  | some k => ∃ h : k < t.length, t[k] <+: b ∧ ∀ s ∈ t, s <+: b → s.length ≤ t[k].length
theorem prefix_same {a c b : List UInt8} (h1 : a <+: b) (h2 : c <+: b) (h : a.length = c.length) : a = c := by
  rw [List.prefix_iff_eq_take] at h1 h2
  rw [h1, h2, h]
theorem nodup_at {t : List (List UInt8)} (h : t.Nodup) {k j : Nat} (hk : k < t.length) (hj : j < t.length) (e : t[k] = t[j]) : k = j := by
  exact (List.getElem_inj h).1 e
theorem IsLongest.unique {t : List (List UInt8)} {b : List UInt8} (ht : t.Nodup) : ∀ {r r' : Option Nat}, IsLongest t b r → IsLongest t b r' → r = r'
  | none, none, _, _ => rfl
  | none, some _, h, ⟨hk, hp, _⟩ => absurd hp (h _ (List.getElem_mem hk))
  | some _, none, ⟨hk, hp, _⟩, h => absurd hp (h _ (List.getElem_mem hk))
  | some k, some j, ⟨hk, hp, hm⟩, ⟨hj, hq, hn⟩ => by
    have e := prefix_same hp hq (Nat.le_antisymm (hn _ (List.getElem_mem hk) hp) (hm _ (List.getElem_mem hj) hq))
    rw [nodup_at ht hk hj e]
/-- the longest among the first i symbols: the document's way -/
def upto (t : List (List UInt8)) (b : List UInt8) : Nat → Option Nat
  | 0 => none
  | i + 1 => if t.getD i [] <+: b then
      match upto t b i with
      | none => some i
      | some k => if (t.getD k []).length < (t.getD i []).length then some i else some k
    else upto t b i
def longest (t : List (List UInt8)) (b : List UInt8) : Option Nat := upto t b t.length
theorem getD_eq {t : List (List UInt8)} {k : Nat} (h : k < t.length) : t.getD k [] = t[k] := by simp [h]
theorem upto_is (t : List (List UInt8)) (b : List UInt8) : ∀ i, i ≤ t.length → (upto t b i = none ∧ ∀ j, (h : j < i) → ¬ t.getD j [] <+: b) ∨
    ∃ k, upto t b i = some k ∧ k < i ∧ t.getD k [] <+: b ∧ ∀ j, j < i → t.getD j [] <+: b → (t.getD j []).length ≤ (t.getD k []).length := by
  intro i
  induction i with
  | zero => exact fun _ => .inl ⟨rfl, fun j h => absurd h (by omega)⟩
  | succ i ih =>
    intro hi
    unfold upto
    by_cases hp : t.getD i [] <+: b
    · rw [if_pos hp]
      rcases ih (by omega) with ⟨e, hn⟩ | ⟨k, e, hk, hkp, hm⟩
      · refine .inr ⟨i, by rw [e], by omega, hp, fun j hj hjp => ?_⟩
        rcases Nat.lt_or_ge j i with hlt | hge
        · exact absurd hjp (hn j hlt)
        · obtain rfl : j = i := by omega
          exact Nat.le_refl _
      · rw [e]
        simp only
        by_cases hlt : (t.getD k []).length < (t.getD i []).length
        · rw [if_pos hlt]
          refine .inr ⟨i, rfl, by omega, hp, fun j hj hjp => ?_⟩
          rcases Nat.lt_or_ge j i with h | h
          · exact Nat.le_trans (hm j h hjp) (Nat.le_of_lt hlt)
          · obtain rfl : j = i := by omega
            exact Nat.le_refl _
        · rw [if_neg hlt]
          refine .inr ⟨k, rfl, by omega, hkp, fun j hj hjp => ?_⟩
          rcases Nat.lt_or_ge j i with h | h
          · exact hm j h hjp
          · obtain rfl : j = i := by omega
            omega
    · rw [if_neg hp]
      rcases ih (by omega) with ⟨e, hn⟩ | ⟨k, e, hk, hkp, hm⟩
      · refine .inl ⟨e, fun j hj => ?_⟩
        rcases Nat.lt_or_ge j i with h | h
        · exact hn j h
        · obtain rfl : j = i := by omega
          exact hp
      · refine .inr ⟨k, e, by omega, hkp, fun j hj hjp => ?_⟩
        rcases Nat.lt_or_ge j i with h | h
        · exact hm j h hjp
        · obtain rfl : j = i := by omega
          exact absurd hjp hp
theorem longest_is (t : List (List UInt8)) (b : List UInt8) : IsLongest t b (longest t b) := by
  rcases upto_is t b t.length (Nat.le_refl _) with ⟨e, hn⟩ | ⟨k, e, hk, hp, hm⟩
  · unfold longest
    rw [e]
    intro s hs
    obtain ⟨j, hj, rfl⟩ := List.mem_iff_getElem.1 hs
    have := hn j hj
    rwa [getD_eq hj] at this
  · unfold longest
    rw [e]
    rw [getD_eq hk] at hp
    refine ⟨hk, hp, fun s hs hsp => ?_⟩
    obtain ⟨j, hj, rfl⟩ := List.mem_iff_getElem.1 hs
    have := hm j hj (by rw [getD_eq hj]; exact hsp)
    rwa [getD_eq hj, getD_eq hk] at this
theorem longest_eq {t : List (List UInt8)} {b : List UInt8} (ht : t.Nodup) {r : Option Nat} (h : IsLongest t b r) : longest t b = r := (longest_is t b).unique ht h
/-- bytes coded -/
def encode (t : List (List UInt8)) (b : List UInt8) : List UInt8 :=
  match b with
  | [] => []
  | c :: r => match longest t (c :: r) with
    | none => 255 :: c :: encode t r
    | some k => UInt8.ofNat k :: encode t (r.drop ((t.getD k []).length - 1))
termination_by b.length
decreasing_by all_goals (simp_wf; try omega)
theorem encode_nil (t : List (List UInt8)) : encode t [] = [] := by unfold encode; rfl
theorem encode_none {t : List (List UInt8)} {c : UInt8} {r : List UInt8} (h : longest t (c :: r) = none) : encode t (c :: r) = 255 :: c :: encode t r := by
  rw [encode]; simp only [h]
theorem encode_some {t : List (List UInt8)} {b : List UInt8} {k : Nat} (h : longest t b = some k) (hb : 1 ≤ (t.getD k []).length) : encode t b = UInt8.ofNat k :: encode t (b.drop (t.getD k []).length) := by
  cases b with
  | nil =>
    have := longest_is t []
    rw [h] at this
    obtain ⟨hk, hp, _⟩ := this
    rw [getD_eq hk] at hb
    have := hp.length_le
    simp at this
    rw [this] at hb
    simp at hb
  | cons c r =>
    rw [encode]
    simp only [h]
    obtain ⟨m, hm⟩ : ∃ m, (t.getD k []).length = m + 1 := ⟨(t.getD k []).length - 1, by omega⟩
    rw [hm, Nat.add_sub_cancel, List.drop_succ_cons]
theorem encode_long (t : List (List UInt8)) (ht : ∀ s ∈ t, 2 ≤ s.length) : ∀ (n : Nat) (b : List UInt8), b.length = n → (encode t b).length ≤ 2 * n := by
  intro n
  induction n using Nat.strongRecOn with
  | ind n ih =>
    intro b hb
    match b, hb with
    | [], hb => rw [encode_nil]; simp
    | c :: r, hb =>
      cases h : longest t (c :: r) with
      | none =>
        rw [encode_none h]
        have := ih r.length (by simp at hb; omega) r rfl
        simp at hb ⊢
        omega
      | some k =>
        have hl := longest_is t (c :: r)
        rw [h] at hl
        obtain ⟨hk, hp, _⟩ := hl
        have h2 := ht _ (List.getElem_mem hk)
        have hle := hp.length_le
        rw [encode_some h (by rw [getD_eq hk]; omega), getD_eq hk]
        have := ih ((c :: r).drop t[k].length).length (by rw [List.length_drop]; simp at hb ⊢; omega) _ rfl
        rw [List.length_drop] at this
        simp at this hb ⊢
        omega
/-- what the code stands for that bytes begin with, and its size -/
def code (t : List (List UInt8)) : List UInt8 → Option (List UInt8 × Nat)
  | [] => none
  | c :: r => if c.toNat < t.length then some (t.getD c.toNat [], 1) else if c = 255 then match r with
      | [] => none
      | d :: _ => some ([d], 2)
    else none
/-- what coded bytes stand for, behind what stands there: the bytes, the error -/
def decode (t : List (List UInt8)) (most : Int) (out b : List UInt8) : List UInt8 × Nat :=
  match b with
  | [] => (out, 0)
  | c :: r => match code t (c :: r) with
    | none => ([], 2)
    | some (s, k) => if most - out.length < s.length then ([], 5) else decode t most (out ++ s) (r.drop (k - 1))
termination_by b.length
decreasing_by all_goals (simp_wf; try omega)
/-- decoded at once -/
def decoded (t : List (List UInt8)) (b : List UInt8) (most : Int) : List UInt8 × Nat := if Formed t ∧ 0 ≤ most then decode t most [] b else ([], 1)
/-- encoded at once -/
def encoded (t : List (List UInt8)) (b : List UInt8) : List UInt8 × Nat := if Formed t then (encode t b, 0) else ([], 1)
end Go.Proofs.Ytoebeibmmclhpaa.Sym

/- The pieces of samples, and how often each comes: plain. -/
namespace Go.Proofs.Ytoebeibmmclhpaa.Sym
/-- the first k pieces that begin at place i -/
def posK (s : List UInt8) (i k : Nat) : List (List UInt8) := (List.range k).map fun j => (s.drop i).take (j + 2)
/-- how many begin there -/
def nAt (s : List UInt8) (i : Nat) : Nat := min 8 (s.length - i) - 1
/-- the pieces that begin ahead of place i -/
def occTo (s : List UInt8) : Nat → List (List UInt8)
  | 0 => []
  | i + 1 => occTo s i ++ posK s i (nAt s i)
/-- all pieces of a text -/
def occ (s : List UInt8) : List (List UInt8) := occTo s s.length
/-- how many letters texts have -/
def tot (l : List (List UInt8)) : Nat := (l.map List.length).sum
/-- the pieces of samples, so many letters of them -/
def pieces : List (List UInt8) → Nat → List (List UInt8)
  | [], _ => []
  | s :: r, left => occ (s.take left) ++ pieces r (left - s.length)
theorem posK_zero (s : List UInt8) (i : Nat) : posK s i 0 = [] := rfl
theorem posK_step (s : List UInt8) (i k : Nat) : posK s i (k + 1) = posK s i k ++ [(s.drop i).take (k + 2)] := by
  unfold posK
  rw [List.range_succ, List.map_append]
  rfl
theorem occTo_step (s : List UInt8) (i : Nat) : occTo s (i + 1) = occTo s i ++ posK s i (nAt s i) := rfl
theorem tot_append (a b : List (List UInt8)) : tot (a ++ b) = tot a + tot b := by simp [tot]
theorem pieces_append : ∀ (a b : List (List UInt8)) (left : Nat), pieces (a ++ b) left = pieces a left ++ pieces b (left - tot a)
  | [], b, left => by simp [pieces, tot]
  | s :: a, b, left => by
    have e : left - s.length - tot a = left - tot (s :: a) := by
      have : tot (s :: a) = s.length + tot a := by simp [tot]
      omega
    rw [List.cons_append, pieces, pieces_append a b, pieces, List.append_assoc, e]
theorem pieces_snoc (a : List (List UInt8)) (s : List UInt8) (left : Nat) : pieces (a ++ [s]) left = pieces a left ++ occ (s.take (left - tot a)) := by
  rw [pieces_append, pieces, pieces, List.append_nil]
theorem posK_len {s : List UInt8} {i k : Nat} (hk : k ≤ nAt s i) : ∀ p ∈ posK s i k, 2 ≤ p.length ∧ p.length ≤ 8 := by
  intro p hp
  obtain ⟨j, hj, rfl⟩ := List.mem_map.1 hp
  have hj' := List.mem_range.1 hj
  unfold nAt at hk
  rw [List.length_take, List.length_drop]
  omega
theorem posK_length (s : List UInt8) (i k : Nat) : (posK s i k).length = k := by simp [posK]
theorem nAt_le (s : List UInt8) (i : Nat) : nAt s i ≤ 7 := by unfold nAt; omega
theorem occTo_len (s : List UInt8) : ∀ i, ∀ p ∈ occTo s i, 2 ≤ p.length ∧ p.length ≤ 8
  | 0, p, hp => by cases hp
  | i + 1, p, hp => by
    rw [occTo_step] at hp
    rcases List.mem_append.1 hp with h | h
    · exact occTo_len s i p h
    · exact posK_len (Nat.le_refl _) p h
theorem occTo_length (s : List UInt8) : ∀ i, (occTo s i).length ≤ 7 * i
  | 0 => by simp [occTo]
  | i + 1 => by
    have := occTo_length s i
    have := nAt_le s i
    rw [occTo_step, List.length_append, posK_length]
    omega
theorem pieces_len : ∀ (l : List (List UInt8)) (left : Nat), ∀ p ∈ pieces l left, 2 ≤ p.length ∧ p.length ≤ 8
  | [], _, p, hp => by cases hp
  | s :: r, left, p, hp => by
    rw [pieces] at hp
    rcases List.mem_append.1 hp with h | h
    · exact occTo_len _ _ p h
    · exact pieces_len r _ p h
theorem pieces_length : ∀ (l : List (List UInt8)) (left : Nat), (pieces l left).length ≤ 7 * left
  | [], _ => by simp [pieces]
  | s :: r, left => by
    have h1 := pieces_length r (left - s.length)
    have h2 := occTo_length (s.take left) (s.take left).length
    rw [pieces, List.length_append]
    unfold occ
    rw [List.length_take] at h2
    rw [List.length_take]
    omega
/-- what a map tells that counts the texts of a list -/
def cnt (P : List (List UInt8)) (s : List UInt8) : Option Int := if s ∈ P then some (P.count s : Int) else none
theorem cnt_get (P : List (List UInt8)) (s : List UInt8) : (cnt P s).getD 0 = (P.count s : Int) := by
  unfold cnt
  by_cases h : s ∈ P
  · rw [if_pos h]; rfl
  · rw [if_neg h, List.count_eq_zero_of_not_mem h]; rfl
theorem cnt_step (P : List (List UInt8)) (p : List UInt8) : (fun s => if s = p then some ((P.count p : Int) + 1) else cnt P s) = cnt (P ++ [p]) := by
  funext s
  unfold cnt
  by_cases h : s = p
  · subst h
    rw [if_pos rfl, if_pos (List.mem_append.2 (.inr (List.mem_singleton.2 rfl))), List.count_append]
    simp
  · rw [if_neg h]
    have hm : s ∈ P ++ [p] ↔ s ∈ P := ⟨fun hm => (List.mem_append.1 hm).resolve_right (fun e => h (List.mem_singleton.1 e)), fun hm => List.mem_append.2 (.inl hm)⟩
    by_cases hs : s ∈ P
    · rw [if_pos hs, if_pos (hm.2 hs), List.count_append]
      have : List.count s [p] = 0 := List.count_eq_zero_of_not_mem (fun e => h (List.mem_singleton.1 e))
      rw [this]
      rfl
    · rw [if_neg hs, if_neg (fun h => hs (hm.1 h))]
end Go.Proofs.Ytoebeibmmclhpaa.Sym

/- What a byte slice holds in a world, and how that is kept: small words for the walks of this seat. -/
namespace Go.Proofs.Ytoebeibmmclhpaa
open Go.RowKit
set_option maxRecDepth 100000
/-- a byte as a value -/
def bval (b : UInt8) : Value := .int .u8 (b.toNat : Int)
/-- bytes as cells -/
def bvals (l : List UInt8) : List Value := l.map bval
theorem bvals_length (l : List UInt8) : (bvals l).length = l.length := by simp [bvals]
theorem bvals_append (a b : List UInt8) : bvals (a ++ b) = bvals a ++ bvals b := by simp [bvals]
theorem bvals_one (l : List UInt8) : ∀ u ∈ bvals l, u.oneCell' = true := by
  intro u hu
  obtain ⟨b, _, rfl⟩ := List.mem_map.1 hu
  rfl
theorem addr_add_add (a : Addr) (i j : Nat) : (a.add i).add j = a.add (i + j) := by
  unfold Addr.add
  by_cases hi : i = 0 <;> by_cases hj : j = 0 <;> simp [hi, hj, Nat.add_assoc]
theorem addr_add_block (a : Addr) (i : Nat) : (a.add i).block = a.block := by unfold Addr.add; split <;> rfl
/-- A slice with address A holds the bytes l, in a block below B; of an empty one nothing is asked. -/
def Bytes (w : World) (B : Nat) (A : Option Addr) (l : List UInt8) : Prop :=
  l ≠ [] → ∃ ad, A = some ad ∧ ad.block < B ∧ ∀ i, (h : i < l.length) → w.cell? (ad.add i) = some (bval l[i])
namespace Bytes
variable {w w' : World} {B B' : Nat} {A : Option Addr} {l : List UInt8}
theorem nil (w : World) (B : Nat) (A : Option Addr) : Bytes w B A [] := fun h => absurd rfl h
theorem get (h : Bytes w B A l) {k : Nat} (hk : k < l.length) : ∃ ad, A = some ad ∧ ad.block < B ∧ w.cell? (ad.add k) = some (.int .u8 (l[k].toNat : Int)) := by
  obtain ⟨ad, ha, hb, hc⟩ := h (fun e => by subst e; simp at hk)
  exact ⟨ad, ha, hb, hc k hk⟩
theorem keep (h : Bytes w B A l) (hk : ∀ p : Addr, p.block < B → w'.cell? p = w.cell? p) : Bytes w' B A l := fun hn => by
  obtain ⟨ad, ha, hb, hc⟩ := h hn
  exact ⟨ad, ha, hb, fun i hi => (hk _ (by rw [addr_add_block]; exact hb)).trans (hc i hi)⟩
theorem wide (h : Bytes w B A l) (hB : B ≤ B') : Bytes w B' A l := fun hn => by
  obtain ⟨ad, ha, hb, hc⟩ := h hn
  exact ⟨ad, ha, Nat.lt_of_lt_of_le hb hB, hc⟩
theorem below (h : Bytes w B A l) (hb : Below B w w') : Bytes w' B A l := h.keep fun _ hp => hb.cell hp
theorem news {ad : Addr} (h : Bytes w B (some ad) l) : ∀ j u, (bvals l)[j]? = some u → w.cell? (ad.add j) = some u := by
  intro j u hu
  have hj : j < l.length := by
    rcases Nat.lt_or_ge j l.length with hlt | hge
    · exact hlt
    · rw [List.getElem?_eq_none (by rw [bvals_length]; exact hge)] at hu; cases hu
  obtain ⟨ad', ha, _, hc⟩ := h (fun e => by subst e; simp at hj)
  cases ha
  rw [hc j hj]
  simp [bvals, List.getElem?_eq_getElem hj] at hu
  rw [← hu]
theorem take (h : Bytes w B A l) (k : Nat) : Bytes w B A (l.take k) := fun hn => by
  obtain ⟨ad, ha, hb, hc⟩ := h (fun e => hn (by subst e; simp))
  exact ⟨ad, ha, hb, fun i hi => by rw [List.getElem_take]; exact hc i (by simp at hi; omega)⟩
theorem drop (h : Bytes w B A l) {k cap : Nat} (hk : k ≤ l.length) (hc : l.length ≤ cap) :
    Bytes w B (if cap = k then A else A.map (·.add k)) (l.drop k) := fun hn => by
  have hlt : k < l.length := by
    rcases Nat.lt_or_ge k l.length with hlt | hge
    · exact hlt
    · exact absurd (List.drop_eq_nil_of_le hge) hn
  obtain ⟨ad, rfl, hb, hcell⟩ := h (fun e => by subst e; simp at hlt)
  rw [if_neg (by omega)]
  refine ⟨ad.add k, rfl, by rw [addr_add_block]; exact hb, fun i hi => ?_⟩
  rw [addr_add_add, List.getElem_drop]
  exact hcell _ _
theorem of_own {base e n c : Nat} (h : w.ownsRow base e 1 (.slice A n c) n (bvals l)) : Bytes w w.heap.size A l := fun hn => by
  have hl : l.length = n := by have := h.1; rw [bvals_length] at this; omega
  have h0 : 0 < n := by
    rcases Nat.eq_zero_or_pos n with h0 | h0
    · exact absurd (List.eq_nil_of_length_eq_zero (by omega)) hn
    · exact h0
  obtain ⟨g, cap, hv, _, hlt⟩ := h.form h0
  have hA : A = some ⟨g, 0, none⟩ := by injection hv
  subst hA
  exact ⟨_, rfl, hlt, fun i hi => h.cells (g := g) rfl i _ (by simp [bvals, List.getElem?_eq_getElem hi])⟩
end Bytes
end Go.Proofs.Ytoebeibmmclhpaa

/- The block of a slice. -/
namespace Go.Proofs.Ytoebeibmmclhpaa
open Go.RowKit
set_option maxRecDepth 100000
/-- the block of a slice -/
def blk (A : Option Addr) : Option Nat := A.map (·.block)
theorem ownBlock_eq (A : Option Addr) (n c : Nat) : (Value.slice A n c).ownBlock = blk A := by cases A <;> rfl
end Go.Proofs.Ytoebeibmmclhpaa

/- A byte slice of a call's own: how it is made, appended to, and kept. -/
namespace Go.Proofs.Ytoebeibmmclhpaa
open Go.RowKit
set_option maxRecDepth 100000
theorem byte_info : (Try.prog.info? 5).map (fun i => (i.zero, i.size, i.bytes)) = some (some (.int .u8 0), 1, 1) := by kernel_rfl
/-- The slice at A, of n bytes, is the bytes l, in a block from 'base' on that nothing else holds. -/
def Own (w : World) (base : Nat) (A : Option Addr) (n c : Nat) (l : List UInt8) : Prop := w.ownsRow base 5 1 (.slice A n c) n (bvals l)
namespace Own
variable {w w' : World} {base : Nat} {A : Option Addr} {n c : Nat} {l : List UInt8}
theorem len (h : Own w base A n c l) : l.length = n := by have := h.1; rw [bvals_length] at this; omega
theorem bytes (h : Own w base A n c l) : Bytes w w.heap.size A l := Bytes.of_own h
theorem lt (h : Own w base A n c l) {k : Nat} (hk : blk A = some k) : base ≤ k ∧ k < w.heap.size := World.ownsRow.lt h k (by rw [ownBlock_eq]; exact hk)
theorem kept {row : Option Nat} (h : Own w base A n c l) (hg : w.grownBy w' row) (hne : blk A = none ∨ blk A ≠ row) : Own w' base A n c l :=
  World.ownsRow.kept h hg (by rw [ownBlock_eq]; exact hne)
theorem drew (h : Own w base A n c l) : Own w.drew base A n c l := h
theorem alloc (h : Own w base A n c l) (o : Obj) : Own (w.alloc o) base A n c l := World.ownsRow.alloc h o
theorem low {b' : Nat} (h : Own w base A n c l) (hb : b' ≤ base) : Own w b' A n c l := by
  refine ⟨h.1, ?_⟩
  rcases h.2 with h2 | ⟨g, cap, cur, h1, h2, r⟩
  · exact .inl h2
  · exact .inr ⟨g, cap, cur, h1, Nat.le_trans hb h2, r⟩
theorem below (h : Own w base A n c l) (hb : Below w.heap.size w w') : Own w' base A n c l := by
  refine ⟨h.1, ?_⟩
  rcases h.2 with h2 | ⟨g, cap, cur, h1, h2, h3, r⟩
  · exact .inl h2
  · have hlt : g < w.heap.size := by
      rcases Nat.lt_or_ge g w.heap.size with hlt | hge
      · exact hlt
      · rw [Array.getElem?_eq_none hge] at h3; cases h3
    exact .inr ⟨g, cap, cur, h1, h2, (hb.block g hlt).trans h3, r⟩
end Own
/-- where it lies, if it isn't empty -/
theorem Own.at_ {w : World} {base : Nat} {A : Option Addr} {n c : Nat} {l : List UInt8} (h : Own w base A n c l) (hn : 0 < n) : ∃ g, A = some ⟨g, 0, none⟩ ∧ base ≤ g ∧ g < w.heap.size := by
  obtain ⟨g, cap, hv, hb, hlt⟩ := World.ownsRow.form h hn
  injection hv with h1
  exact ⟨g, h1, hb, hlt⟩
theorem Own.cell {w : World} {base g : Nat} {n c : Nat} {l : List UInt8} (h : Own w base (some ⟨g, 0, none⟩) n c l) {k : Nat} (hk : k < l.length) : w.cell? ⟨g, k, none⟩ = some (.int .u8 (l[k].toNat : Int)) := by
  have := World.ownsRow.cellAt h k (by rw [Nat.mul_one, ← h.len]; exact hk)
  rw [this]
  simp [bvals, List.getElem?_eq_getElem hk, bval]
theorem Own.free {w : World} {base g : Nat} {n c : Nat} {l : List UInt8} (h : Own w base (some ⟨g, 0, none⟩) n c l) (k : Nat) : w.frozen? ⟨g, k, none⟩ = false := World.ownsRow.frozenAt h k
/-- a byte stored -/
theorem Own.store {w : World} {base g : Nat} {n c : Nat} {l : List UInt8} (h : Own w base (some ⟨g, 0, none⟩) n c l) (k : Nat) (b : UInt8) :
    Own (w.setCell ⟨g, k, none⟩ (bval b)) base (some ⟨g, 0, none⟩) n c (l.set k b) := by
  have := (World.ownsRow.stored h k (bval b)).1
  unfold Own
  rw [show bvals (l.set k b) = (bvals l).set k (bval b) from by simp [bvals]]
  exact this
/-- nil -/
theorem own_none (w : World) (base : Nat) : Own w base none 0 0 [] := World.ownsRow_nil w base _ _
/-- a made slice with nothing in it -/
theorem own_made (w : World) (base : Nat) (cur : Array Value) (cap : Nat) (hb : base ≤ w.heap.size) (hm : cap ≤ maxLen) (hs : cur.size = cap) :
    Own (w.alloc (.cells cur 5)) base (some ⟨w.heap.size, 0, none⟩) 0 cap [] := World.ownsRow_made w cur cap hb hm (by omega)
/-- a literal -/
theorem own_lit (w : World) (base : Nat) (l : List UInt8) (hb : base ≤ w.heap.size) (hm : l.length ≤ maxLen) :
    Own (w.alloc (.cells (bvals l).toArray 5)) base (some ⟨w.heap.size, 0, none⟩) l.length l.length l := by
  have h := World.ownsRow_lit (e := 5) (size := 1) w (bvals l).toArray l.length hb hm (by simp [bvals])
  exact h
set_option maxRecDepth 100000 in
theorem run_append_bytes (w : World) (base : Nat) (ty : TypeId) (A : Option Addr) (n c : Nat) (l : List UInt8) (hown : Own w base A n c l)
    (B : Nat) (A2 : Option Addr) (m c2 : Nat) (l2 : List UInt8) (hl2 : l2.length = m) (hb : Bytes w B A2 l2) (hbytes : n + m ≤ 140737488355328) (hbase : base ≤ w.heap.size) :
    ∃ A' c' w', (Builtin.append_ #[22, 22] ty #[.slice A n c, .slice A2 m c2]).run Try.prog w = .ok (.slice A' (n + m) c') w' ∧
      Own w' base A' (n + m) c' (l ++ l2) ∧ w.grownBy w' (blk A) ∧ (blk A' = blk A ∨ blk A' = some w.heap.size) := by
  obtain ⟨i0, hi0, hz0, hz1, hz2⟩ := info_parts byte_info
  rcases A2 with _ | ad
  · have hm : l2 = [] := by
      rcases Classical.em (l2 = []) with h | h
      · exact h
      · obtain ⟨_, h, _⟩ := hb h; cases h
    subst hm
    obtain rfl : 0 = m := by simpa using hl2
    refine ⟨A, c, w, ?_, by simpa using hown, World.grownBy.refl w _, .inl rfl⟩
    rcases hown.2 with ⟨hv, rfl⟩ | ⟨g, cap, cur, hv, _, _, hnc, _⟩
    · injection hv with h1 _ h3
      subst h1 h3
      simp [Builtin.append_, run_underlying Try.underlying22, sizeOf, typeInfo, hi0, Builtin.lenOf, Builtin.firstCells]
    · injection hv with h1 h2 h3
      subst h1 h3
      simp [Builtin.append_, run_underlying Try.underlying22, sizeOf, typeInfo, hi0, Builtin.lenOf, Builtin.firstCells, hnc, storeCells]
  · obtain ⟨v', w', hrun, h2, h3, _, h5⟩ := run_append_own_at (P := Try.prog) w base 22 ty 5 i0 _ 1 1 Try.underlying22 hi0 hz0 hz1 hz2 rfl (by omega) (.slice A n c) n (bvals l) hown
      ad m c2 (bvals l2) (by rw [bvals_length]; omega) hb.news (bvals_one l2) (by simp only [maxLen]; omega) (by omega) hbase
    rw [← bvals_append] at h2
    rw [ownBlock_eq] at h3 h5
    rcases h2.2 with ⟨rfl, h0⟩ | ⟨g, cap, cur, rfl, _⟩
    · refine ⟨none, 0, w', ?_, ?_, h3, h5⟩
      · rw [h0]; exact hrun
      · unfold Own; rw [h0] at h2 ⊢; exact h2
    · exact ⟨_, cap, w', hrun, h2, h3, h5⟩
theorem wpList_append_bytes {w : World} {ops : Array Oper} {rest : List Oper} {o : Oper} {a : Act} {Q : Exit → Act → World → Prop} (hw : Region.wanted o (yielded ops a.tmps) = true) (s x : Operand)
    (ho : o.op = .call { callee := .builtin .append, args := #[s, x], argTypes := #[22, 22] })
    (base : Nat) (A : Option Addr) (n c : Nat) (l : List UInt8) (hs : a.eval s = .slice A n c) (hown : Own w base A n c l)
    (B : Nat) (A2 : Option Addr) (m c2 : Nat) (l2 : List UInt8) (hx : a.eval x = .slice A2 m c2) (hl2 : l2.length = m) (hb : Bytes w B A2 l2) (hbytes : n + m ≤ 140737488355328) (hbase : base ≤ w.heap.size)
    (h : ∀ A' c' w', Own w' base A' (n + m) c' (l ++ l2) → w.grownBy w' (blk A) → (blk A' = blk A ∨ blk A' = some w.heap.size) → wpList Try.prog ops Q rest (a.put o.dst (.slice A' (n + m) c')) w') :
    wpList Try.prog ops Q (o :: rest) a w := by
  obtain ⟨A', c', w', hrun, h2, h3, h4⟩ := run_append_bytes w base o.type A n c l hown B A2 m c2 l2 hl2 hb hbytes hbase
  refine wpList_step fun K hK => ?_
  rw [if_pos hw]
  unfold Oper.wp execOp
  simp only [ho, resolve, invoke, builtin, Sem.run_bind, Sem.run_pure, Result.andThen_ok, List.map_toArray, List.map_cons, List.map_nil, hs, hx, hrun]
  exact hK _ _ (h A' c' w' h2 h3 h4)
end Go.Proofs.Ytoebeibmmclhpaa

/- A byte slice of one's own with room: made, and appended to in its place. -/
namespace Go.Proofs.Ytoebeibmmclhpaa
open Go.RowKit
set_option maxRecDepth 100000
theorem run_make_bytes (c : Nat) (hc : c ≤ 281474976710656) (u : World) :
    (Instr.makeSlice 22 (.int .i64 0) (.int .i64 (c : Int))).run Try.prog u = .ok (.slice (some ⟨u.heap.size, 0, none⟩) 0 c) (u.alloc (.cells (madeCells #[.int .u8 0] c) 5)) := by
  obtain ⟨i0, hi, hz0, hz1, hz2⟩ := info_parts byte_info
  have h := run_make (P := Try.prog) u 22 5 i0 (.int .u8 0) Try.underlying22 hi hz0 .i64 .i64 0 (c : Int) (by omega) (by omega) (by rw [hz2]; omega) (by omega)
  simpa [hz1, Value.cells] using h
theorem bval_ofNat (x : Nat) : bval (UInt8.ofNat x) = .int .u8 ((x : Int) % 256) := by
  unfold bval
  rw [UInt8.toNat_ofNat']
  exact congrArg _ (by omega)
theorem bval_small {x : Nat} (h : x < 256) : bval (UInt8.ofNat x) = .int .u8 (x : Int) := by
  rw [bval_ofNat]
  exact congrArg _ (by omega)
/-- a literal of one byte -/
theorem own_one (w : World) (b : UInt8) (z : Int) (h : bval b = .int .u8 z) : Own (w.alloc (.cells #[.int .u8 z] 5)) w.heap.size (some ⟨w.heap.size, 0, none⟩) 1 1 [b] := by
  have := own_lit w w.heap.size [b] (Nat.le_refl _) (by simp only [maxLen, List.length_singleton]; omega)
  simp only [bvals, List.map_cons, List.map_nil, h] at this
  exact this
set_option maxRecDepth 100000 in
theorem run_append_fit (w : World) (base : Nat) (ty : TypeId) (g n c : Nat) (l : List UInt8) (hown : Own w base (some ⟨g, 0, none⟩) n c l)
    (B : Nat) (A2 : Option Addr) (m c2 : Nat) (l2 : List UInt8) (hl2 : l2.length = m) (hb : Bytes w B A2 l2) (hroom : n + m ≤ c) :
    ∃ w', (Builtin.append_ #[22, 22] ty #[.slice (some ⟨g, 0, none⟩) n c, .slice A2 m c2]).run Try.prog w = .ok (.slice (some ⟨g, 0, none⟩) (n + m) c) w' ∧
      Own w' base (some ⟨g, 0, none⟩) (n + m) c (l ++ l2) ∧ w.grownBy w' (some g) := by
  obtain ⟨i0, hi0, hz0, hz1, hz2⟩ := info_parts byte_info
  rcases A2 with _ | ad
  · have hm : l2 = [] := by
      rcases Classical.em (l2 = []) with h | h
      · exact h
      · obtain ⟨_, h, _⟩ := hb h; cases h
    subst hm
    obtain rfl : 0 = m := by simpa using hl2
    refine ⟨w, ?_, by simpa using hown, World.grownBy.refl w _⟩
    rcases hown.2 with ⟨hv, rfl⟩ | ⟨g', cap, cur, hv, _, _, hnc, _⟩
    · cases hv
    · injection hv with h1 h2 h3
      subst h3
      simp [Builtin.append_, run_underlying Try.underlying22, sizeOf, typeInfo, hi0, Builtin.lenOf, Builtin.firstCells, hnc, storeCells]
  · obtain ⟨w', hrun, h2, h3⟩ := run_append_fits (P := Try.prog) w base 22 ty 5 i0 1 Try.underlying22 hi0 hz1 g n c (bvals l) hown
      ad m c2 (bvals l2) (by rw [bvals_length]; omega) hb.news (bvals_one l2) hroom
    rw [← bvals_append] at h2
    exact ⟨w', hrun, h2, h3⟩
theorem wpList_append_fit {w : World} {ops : Array Oper} {rest : List Oper} {o : Oper} {a : Act} {Q : Exit → Act → World → Prop} (hw : Region.wanted o (yielded ops a.tmps) = true) (s x : Operand)
    (ho : o.op = .call { callee := .builtin .append, args := #[s, x], argTypes := #[22, 22] })
    (base : Nat) (g n c : Nat) (l : List UInt8) (hs : a.eval s = .slice (some ⟨g, 0, none⟩) n c) (hown : Own w base (some ⟨g, 0, none⟩) n c l)
    (B : Nat) (A2 : Option Addr) (m c2 : Nat) (l2 : List UInt8) (hx : a.eval x = .slice A2 m c2) (hl2 : l2.length = m) (hb : Bytes w B A2 l2) (hroom : n + m ≤ c)
    (h : ∀ w', Own w' base (some ⟨g, 0, none⟩) (n + m) c (l ++ l2) → w.grownBy w' (some g) → wpList Try.prog ops Q rest (a.put o.dst (.slice (some ⟨g, 0, none⟩) (n + m) c)) w') :
    wpList Try.prog ops Q (o :: rest) a w := by
  obtain ⟨w', hrun, h2, h3⟩ := run_append_fit w base o.type g n c l hown B A2 m c2 l2 hl2 hb hroom
  refine wpList_step fun K hK => ?_
  rw [if_pos hw]
  unfold Oper.wp execOp
  simp only [ho, resolve, invoke, builtin, Sem.run_bind, Sem.run_pure, Result.andThen_ok, List.map_toArray, List.map_cons, List.map_nil, hs, hx, hrun]
  exact hK _ _ (h w' h2 h3)
/-- where it lies -/
theorem Own.block {w : World} {base g n c : Nat} {l : List UInt8} (h : Own w base (some ⟨g, 0, none⟩) n c l) : base ≤ g ∧ g < w.heap.size := h.lt rfl
theorem Own.cap {w : World} {base n c : Nat} {A : Option Addr} {l : List UInt8} (h : Own w base A n c l) : n ≤ c := by
  rcases h.2 with ⟨hv, hn⟩ | ⟨g', cap, cur, hv, _, _, hnc, _⟩
  · omega
  · injection hv with h1 h2 h3
    omega
theorem Own.size {w : World} {base g n c : Nat} {l : List UInt8} (h : Own w base (some ⟨g, 0, none⟩) n c l) : base ≤ w.heap.size := by have := h.block; omega
end Go.Proofs.Ytoebeibmmclhpaa

/- dragnetref01.Copy: a new slice of the same bytes. -/
namespace Go.Proofs.Ytoebeibmmclhpaa
open Go.RowKit
set_option maxRecDepth 100000
/-- what a call leaves that returns a byte slice of its own (or of its caller's), in a block from 'base' on: just these bytes; all below 'base' is as it was -/
def MadeAt (base : Nat) (w : World) (n : Nat) (l : List UInt8) (e : Ending) (w' : World) : Prop :=
  ∃ A c, e = .returned (.slice A n c) ∧ Own w' base A n c l ∧ Below base w w'
end Go.Proofs.Ytoebeibmmclhpaa

/- Pieces of a byte slice. -/
namespace Go.Proofs.Ytoebeibmmclhpaa
open Go.RowKit
set_option maxRecDepth 100000
theorem size8 (W : World) : (sizeOf 5).run Try.prog W = .ok 1 W := by
  obtain ⟨i0, hi0, hz0, hz1, hz2⟩ := info_parts byte_info
  simp [sizeOf, typeInfo, hi0, hz1]
theorem elem22 : Try.prog.elem 22 = 5 := by kernel_rfl
/-- where a piece that begins at lo lies -/
def cutAt (A : Option Addr) (cap lo : Nat) : Option Addr := if cap = lo then A else A.map (·.add lo)
theorem run_cut_lh (A : Option Addr) (n cap lo hi : Nat) (h1 : lo ≤ hi) (h2 : hi ≤ cap) (W : World) :
    (Instr.slice 22 (.slice A n cap) (some (.int .i64 (lo : Int))) (some (.int .i64 (hi : Int))) none).run Try.prog W = .ok (.slice (cutAt A cap lo) (hi - lo) (cap - lo)) W := by
  rw [run_slice_lh (P := Try.prog) (w := W) (kl := .i64) (kh := .i64) (l := (lo : Int)) (h := (hi : Int)) (h0 := by omega) (h1 := by omega) (h2 := by omega) (ht := by rw [elem22]; exact Try.underlying22)]
  rw [elem22, size8]
  simp [Result.andThen, sliced, cutAt]
theorem run_cut_h (A : Option Addr) (n cap hi : Nat) (h2 : hi ≤ cap) (W : World) :
    (Instr.slice 22 (.slice A n cap) none (some (.int .i64 (hi : Int))) none).run Try.prog W = .ok (.slice A hi cap) W := by
  rw [run_slice_h (P := Try.prog) (w := W) (kh := .i64) (h := (hi : Int)) (h0 := by omega) (h2 := by omega) (ht := by rw [elem22]; exact Try.underlying22)]
  rw [elem22, size8]
  by_cases hc : cap = 0 <;> cases A <;> simp [Result.andThen, sliced, Addr.add]
theorem run_cut_l (A : Option Addr) (n cap lo : Nat) (h1 : lo ≤ n) (W : World) :
    (Instr.slice 22 (.slice A n cap) (some (.int .i64 (lo : Int))) none none).run Try.prog W = .ok (.slice (cutAt A cap lo) (n - lo) (cap - lo)) W := by
  rw [run_slice_l (P := Try.prog) (w := W) (kl := .i64) (l := (lo : Int)) (h0 := by omega) (h1 := by omega) (ht := by rw [elem22]; exact Try.underlying22)]
  rw [elem22, size8]
  simp [Result.andThen, sliced, cutAt]
theorem Bytes.cut {w : World} {B : Nat} {A : Option Addr} {l : List UInt8} (h : Bytes w B A l) {k cap : Nat} (hk : k ≤ l.length) (hc : l.length ≤ cap) : Bytes w B (cutAt A cap k) (l.drop k) := h.drop hk hc
end Go.Proofs.Ytoebeibmmclhpaa

/- Worlds between which only draws lie. -/
namespace Go.Proofs.Ytoebeibmmclhpaa
open Go.RowKit
set_option maxRecDepth 100000
theorem below_drewN {B : Nat} {a w : World} (h : Below B a w) (q : Nat) : Below B a (w.drewN q) := ⟨h.os, h.tape, h.output, h.size, h.block⟩
theorem below_of_drew {B : Nat} {w w' : World} (h : Below B w.drew w') : Below B w w' := ⟨h.os, h.tape, h.output, h.size, h.block⟩
theorem Bytes.drewN {w : World} {B : Nat} {A : Option Addr} {l : List UInt8} (h : Bytes w B A l) (q : Nat) : Bytes (w.drewN q) B A l := h
/-- only draws lie between the two worlds -/
def Drawn (w w' : World) : Prop := ∃ q, w' = w.drewN q
theorem Drawn.refl (w : World) : Drawn w w := ⟨0, rfl⟩
theorem Drawn.drewN {w w' : World} (h : Drawn w w') (n : Nat) : Drawn w (w'.drewN n) := by
  obtain ⟨q, rfl⟩ := h
  exact ⟨q + n, World.drewN_drewN _ _ _⟩
theorem Drawn.below {w w' : World} (h : Drawn w w') (B : Nat) : Below B w w' := by
  obtain ⟨q, rfl⟩ := h
  exact below_drewN (Below.refl _ _) q
theorem Drawn.of_drewN {w w' : World} {n : Nat} (h : Drawn (w.drewN n) w') : Drawn w w' := by
  obtain ⟨q, rfl⟩ := h
  exact ⟨n + q, World.drewN_drewN _ _ _⟩
theorem Drawn.trans {w w' w'' : World} (h : Drawn w w') (h2 : Drawn w' w'') : Drawn w w'' := by
  obtain ⟨q, rfl⟩ := h
  exact h2.of_drewN
theorem quiet_left {P : Program} {f : FuncId} {args : Array Value} {w : World} {n : Nat} {v : Value}
    (h : Calls P f args (w.drewN n) fun e w' => e = .returned v ∧ w.drewN n = w') : Calls P f args (w.drewN n) fun e w'' => e = .returned v ∧ ∃ m, w'' = w.drewN m :=
  h.mono fun _ _ ⟨he, hm⟩ => ⟨he, n, hm.symm⟩
end Go.Proofs.Ytoebeibmmclhpaa

/- What every law shares, whatever it takes: the program laid out; how much a slice holds. -/
namespace Go.Proofs.Ytoebeibmmclhpaa
open Go.ChangeShapes Go.WideShapes Go.ChangeAt Go.RowKit
set_option maxRecDepth 100000
theorem own : ownKnob Try.prog.godebug = none := by kernel_rfl
theorem laidOut : laidOutB Try.prog = true := by kernel_rfl
end Go.Proofs.Ytoebeibmmclhpaa

/- What every law shares: byte slices that come in, how much they hold. -/
namespace Go.Proofs.Ytoebeibmmclhpaa
open Go.ChangeShapes Go.WideShapes Go.ChangeAt Go.RowKit
set_option maxRecDepth 100000
theorem cells8 : Try.prog.cellsOf 5 = 1 := by kernel_rfl
theorem bytes8 : Try.prog.bytesOf 5 = 1 := by kernel_rfl
/-- numbers that fit a byte, as bytes -/
def bytesOfInts (zs : List Int) : List UInt8 := zs.map fun z => UInt8.ofNat z.toNat
theorem byte_of_int {z : Int} (h : (Lit.int .u8 z).wf = true) : ((UInt8.ofNat z.toNat).toNat : Int) = z := by
  have hb := bounds_u8 h
  rw [UInt8.toNat_ofNat']
  omega
/-- A byte slice that came in: its bytes, and how it is read. -/
theorem open_bytes {H : Type} {enc : TypeId × Value → H} {W : World} {a : Option Addr} {len cap : Nat} {d : DataW H} {p : List MemPlace}
    (h : DataW.Trod enc Try.prog W 0 (fun _ => true) true 22 (.slice a len cap) d p) :
    ∃ l : List UInt8, l.length = len ∧ len ≤ cap ∧ Bytes W W.heap.size a l ∧ (d = .nil ∧ len = 0 ∨ ∃ elems spare, d = .slice elems spare ∧ elems.length = len) := by
  have hlt : ∀ x ∈ p, x.block < W.heap.size := by obtain ⟨m, hm⟩ := h; exact DataW.trod_lt m _ _ _ hm
  obtain ⟨fuel, hf⟩ := h
  rcases open_ints Try.underlying22 Try.underlying5 cells8 hf with ⟨hcs, hx⟩ | ⟨x, l, c, zs, hcs, _, hl, hm, hz, hx, hcell, hwz⟩
  · simp [Value.cells] at hcs
    obtain ⟨rfl, rfl, rfl⟩ := hcs
    injection hx with hx1 hx2
    exact ⟨[], rfl, Nat.le_refl _, Bytes.nil _ _ _, .inl ⟨hx1, rfl⟩⟩
  · simp [Value.cells] at hcs
    obtain ⟨rfl, rfl, rfl⟩ := hcs
    injection hx with hx1 hx2
    simp only [if_true] at hz
    refine ⟨bytesOfInts (zs.take len), by simp [bytesOfInts]; omega, hl, fun hn => ⟨x, rfl, ?_, fun i hi => ?_⟩, .inr ⟨_, _, hx1, by simp [lits]; omega⟩⟩
    · have h0 : 0 < zs.length := by
        rcases Nat.eq_zero_or_pos zs.length with h0 | h0
        · have : zs = [] := List.eq_nil_of_length_eq_zero h0
          subst this
          simp [bytesOfInts] at hn
        · exact h0
      have hc0 := hcell 0 h0
      rcases Nat.lt_or_ge x.block W.heap.size with hlt' | hge
      · exact hlt'
      · have : (x.add 0).block = x.block := addr_add_block x 0
        simp [World.cell?, this, Array.getElem?_eq_none hge] at hc0
    · have hi' : i < zs.length := by simp [bytesOfInts] at hi; omega
      have hil : i < len := by simp [bytesOfInts] at hi; omega
      rw [hcell i hi']
      have hw := hwz zs[i] (List.getElem_mem hi')
      simp only [bytesOfInts, List.getElem_map, List.getElem_take, bval, byte_of_int hw]
      simp [List.getD_eq_getElem?_getD, List.getElem?_eq_getElem hi']
/-- THE REACH: a byte slice that came in has fewer than 2^47 bytes. -/
theorem reach_bytes {H : Type} {ts : List TypeId} {ds : List (DataW H)} {j len : Nat} {d : DataW H} (h : (DataW.weightsEach Try.prog ts ds).all (· ≤ reachBytes) = true)
    (ht : ts[j]? = some 22) (hd : ds[j]? = some d) (hv : d = .nil ∧ len = 0 ∨ ∃ elems spare, d = .slice elems spare ∧ elems.length = len) : len ≤ 140737488351232 := by
  rcases hv with ⟨_, rfl⟩ | ⟨elems, spare, rfl, rfl⟩
  · omega
  · have := sized_slice h ht hd Try.underlying22
    rw [bytes8] at this
    simp only [reachBytes] at this
    omega
end Go.Proofs.Ytoebeibmmclhpaa

/- Slices of byte slices with what each may hold: in a world, and those that come in. -/
namespace Go.Proofs.Ytoebeibmmclhpaa
open Go.ChangeShapes Go.WideShapes Go.ChangeAt Go.RowKit
set_option maxRecDepth 100000
/-- A slice of byte slices with address A holds the texts ls, each within its room, in blocks below B. -/
def Samples (w : World) (B : Nat) (A : Option Addr) (ls : List (List UInt8)) : Prop :=
  ls ≠ [] → ∃ ad, A = some ad ∧ ad.block < B ∧ ∀ i, (h : i < ls.length) → ∃ Ai ci, ls[i].length ≤ ci ∧ w.cell? (ad.add i) = some (.slice Ai ls[i].length ci) ∧ Bytes w B Ai ls[i]
namespace Samples
variable {w w' : World} {B B' : Nat} {A : Option Addr} {ls : List (List UInt8)}
theorem nil (w : World) (B : Nat) (A : Option Addr) : Samples w B A [] := fun h => absurd rfl h
theorem keep (h : Samples w B A ls) (hk : ∀ p : Addr, p.block < B → w'.cell? p = w.cell? p) : Samples w' B A ls := fun hn => by
  obtain ⟨ad, ha, hb, hc⟩ := h hn
  refine ⟨ad, ha, hb, fun i hi => ?_⟩
  obtain ⟨Ai, ci, h0, h1, h2⟩ := hc i hi
  exact ⟨Ai, ci, h0, (hk _ (by rw [addr_add_block]; exact hb)).trans h1, h2.keep hk⟩
theorem below (h : Samples w B A ls) (hb : Below B w w') : Samples w' B A ls := h.keep fun _ hp => hb.cell hp
theorem wide (h : Samples w B A ls) (hB : B ≤ B') : Samples w B' A ls := fun hn => by
  obtain ⟨ad, ha, hb, hc⟩ := h hn
  refine ⟨ad, ha, Nat.lt_of_lt_of_le hb hB, fun i hi => ?_⟩
  obtain ⟨Ai, ci, h0, h1, h2⟩ := hc i hi
  exact ⟨Ai, ci, h0, h1, h2.wide hB⟩
theorem at_ (h : Samples w B A ls) {k : Nat} (hk : k < ls.length) : ∃ ad Ai ci, A = some ad ∧ ad.block < B ∧ ls[k].length ≤ ci ∧ w.cell? (ad.add k) = some (.slice Ai ls[k].length ci) ∧ Bytes w B Ai ls[k] := by
  obtain ⟨ad, ha, hb, hc⟩ := h (fun e => by subst e; simp at hk)
  obtain ⟨Ai, ci, h0, h1, h2⟩ := hc k hk
  exact ⟨ad, Ai, ci, ha, hb, h0, h1, h2⟩
end Samples
end Go.Proofs.Ytoebeibmmclhpaa

/- Slices of one-cell values of any one kind: what they hold in a world, how that is kept; slices of one's own, made, stored into, appended to. -/
namespace Go.Proofs.Ytoebeibmmclhpaa
open Go.RowKit
set_option maxRecDepth 100000
/-- A slice with address A holds the values l (each by f), in a block below B; of an empty one nothing is asked. -/
def Row {α : Type} (f : α → Value) (w : World) (B : Nat) (A : Option Addr) (l : List α) : Prop :=
  l ≠ [] → ∃ ad, A = some ad ∧ ad.block < B ∧ ∀ i, (h : i < l.length) → w.cell? (ad.add i) = some (f l[i])
namespace Row
variable {α : Type} {f : α → Value} {w w' : World} {B B' : Nat} {A : Option Addr} {l : List α}
theorem nil (f : α → Value) (w : World) (B : Nat) (A : Option Addr) : Row f w B A [] := fun h => absurd rfl h
theorem none_ (h : Row f w B none l) : l = [] := by
  rcases Classical.em (l = []) with e | e
  · exact e
  · obtain ⟨_, e, _⟩ := h e; cases e
theorem get (h : Row f w B A l) {k : Nat} (hk : k < l.length) : ∃ ad, A = some ad ∧ ad.block < B ∧ w.cell? (ad.add k) = some (f l[k]) := by
  obtain ⟨ad, ha, hb, hc⟩ := h (fun e => by subst e; simp at hk)
  exact ⟨ad, ha, hb, hc k hk⟩
theorem keep (h : Row f w B A l) (hk : ∀ p : Addr, p.block < B → w'.cell? p = w.cell? p) : Row f w' B A l := fun hn => by
  obtain ⟨ad, ha, hb, hc⟩ := h hn
  exact ⟨ad, ha, hb, fun i hi => (hk _ (by rw [addr_add_block]; exact hb)).trans (hc i hi)⟩
theorem wide (h : Row f w B A l) (hB : B ≤ B') : Row f w B' A l := fun hn => by
  obtain ⟨ad, ha, hb, hc⟩ := h hn
  exact ⟨ad, ha, Nat.lt_of_lt_of_le hb hB, hc⟩
theorem below (h : Row f w B A l) (hb : Below B w w') : Row f w' B A l := h.keep fun _ hp => hb.cell hp
theorem drewN (h : Row f w B A l) (q : Nat) : Row f (w.drewN q) B A l := h
theorem news {ad : Addr} (h : Row f w B (some ad) l) : ∀ j u, (l.map f)[j]? = some u → w.cell? (ad.add j) = some u := by
  intro j u hu
  have hj : j < l.length := by
    rcases Nat.lt_or_ge j l.length with hlt | hge
    · exact hlt
    · rw [List.getElem?_eq_none (by rw [List.length_map]; exact hge)] at hu; cases hu
  obtain ⟨ad', ha, _, hc⟩ := h (fun e => by subst e; simp at hj)
  cases ha
  rw [hc j hj]
  simp [List.getElem?_eq_getElem hj] at hu
  rw [← hu]
theorem take (h : Row f w B A l) (k : Nat) : Row f w B A (l.take k) := fun hn => by
  obtain ⟨ad, ha, hb, hc⟩ := h (fun e => hn (by subst e; simp))
  exact ⟨ad, ha, hb, fun i hi => by rw [List.getElem_take]; exact hc i (by simp at hi; omega)⟩
theorem drop (h : Row f w B A l) {k cap : Nat} (hk : k ≤ l.length) (hc : l.length ≤ cap) :
    Row f w B (if cap = k then A else A.map (·.add k)) (l.drop k) := fun hn => by
  have hlt : k < l.length := by
    rcases Nat.lt_or_ge k l.length with hlt | hge
    · exact hlt
    · exact absurd (List.drop_eq_nil_of_le hge) hn
  obtain ⟨ad, rfl, hb, hcell⟩ := h (fun e => by subst e; simp at hlt)
  rw [if_neg (by omega)]
  refine ⟨ad.add k, rfl, by rw [addr_add_block]; exact hb, fun i hi => ?_⟩
  rw [addr_add_add, List.getElem_drop]
  exact hcell _ _
end Row
/-- what a kind of element has: one cell, so many bytes -/
structure Elem {α : Type} (f : α → Value) (t e : TypeId) (bytes : Nat) : Prop where
  one : ∀ x, (f x).oneCell' = true
  under : Try.prog.underlying t = some (.slice e)
  info : ∃ i z, Try.prog.info? e = some i ∧ i.zero = some z ∧ i.size = 1 ∧ i.bytes = bytes ∧ z.cells.size = 1
/-- The slice at A, of n values, is l, in a block from 'base' on that nothing else holds. -/
def ROwn {α : Type} (f : α → Value) (e : TypeId) (w : World) (base : Nat) (A : Option Addr) (n c : Nat) (l : List α) : Prop := w.ownsRow base e 1 (.slice A n c) n (l.map f)
namespace ROwn
variable {α : Type} {f : α → Value} {e : TypeId} {w w' : World} {base : Nat} {A : Option Addr} {n c : Nat} {l : List α}
theorem nil (f : α → Value) (e : TypeId) (w : World) (base : Nat) : ROwn f e w base none 0 0 [] := World.ownsRow_nil w base e 1
theorem len (h : ROwn f e w base A n c l) : l.length = n := by have := h.1; rw [List.length_map] at this; omega
theorem lt (h : ROwn f e w base A n c l) {k : Nat} (hk : blk A = some k) : base ≤ k ∧ k < w.heap.size := World.ownsRow.lt h k (by rw [ownBlock_eq]; exact hk)
theorem kept {row : Option Nat} (h : ROwn f e w base A n c l) (hg : w.grownBy w' row) (hne : blk A = none ∨ blk A ≠ row) : ROwn f e w' base A n c l :=
  World.ownsRow.kept h hg (by rw [ownBlock_eq]; exact hne)
theorem alloc (h : ROwn f e w base A n c l) (o : Obj) : ROwn f e (w.alloc o) base A n c l := World.ownsRow.alloc h o
theorem low {b' : Nat} (h : ROwn f e w base A n c l) (hb : b' ≤ base) : ROwn f e w b' A n c l := by
  refine ⟨h.1, ?_⟩
  rcases h.2 with h2 | ⟨g, cap, cur, h1, h2, r⟩
  · exact .inl h2
  · exact .inr ⟨g, cap, cur, h1, Nat.le_trans hb h2, r⟩
theorem below (h : ROwn f e w base A n c l) (hb : Below w.heap.size w w') : ROwn f e w' base A n c l := by
  refine ⟨h.1, ?_⟩
  rcases h.2 with h2 | ⟨g, cap, cur, h1, h2, h3, r⟩
  · exact .inl h2
  · have hlt : g < w.heap.size := by
      rcases Nat.lt_or_ge g w.heap.size with hlt | hge
      · exact hlt
      · rw [Array.getElem?_eq_none hge] at h3; cases h3
    exact .inr ⟨g, cap, cur, h1, h2, (hb.block g hlt).trans h3, r⟩
theorem at_ (h : ROwn f e w base A n c l) (hn : 0 < n) : ∃ g, A = some ⟨g, 0, none⟩ ∧ base ≤ g ∧ g < w.heap.size := by
  obtain ⟨g, cap, hv, hb, hlt⟩ := World.ownsRow.form h hn
  injection hv with h1
  exact ⟨g, h1, hb, hlt⟩
theorem cell {g : Nat} (h : ROwn f e w base (some ⟨g, 0, none⟩) n c l) {k : Nat} (hk : k < l.length) : w.cell? ⟨g, k, none⟩ = some (f l[k]) := by
  have := World.ownsRow.cellAt h k (by rw [Nat.mul_one, ← h.len]; exact hk)
  rw [this]
  simp [List.getElem?_eq_getElem hk]
theorem row (h : ROwn f e w base A n c l) : Row f w w.heap.size A l := fun hn => by
  have hl := h.len
  have h0 : 0 < n := by
    rcases Nat.eq_zero_or_pos n with h0 | h0
    · exact absurd (List.eq_nil_of_length_eq_zero (by omega)) hn
    · exact h0
  obtain ⟨g, rfl, _, hlt⟩ := h.at_ h0
  refine ⟨_, rfl, hlt, fun i hi => ?_⟩
  rw [show (⟨g, 0, none⟩ : Addr).add i = ⟨g, i, none⟩ from by by_cases h : i = 0 <;> simp [Addr.add, h]]
  exact h.cell hi
theorem free {g : Nat} (h : ROwn f e w base (some ⟨g, 0, none⟩) n c l) (k : Nat) : w.frozen? ⟨g, k, none⟩ = false := World.ownsRow.frozenAt h k
theorem store {g : Nat} (h : ROwn f e w base (some ⟨g, 0, none⟩) n c l) (k : Nat) (x : α) : ROwn f e (w.setCell ⟨g, k, none⟩ (f x)) base (some ⟨g, 0, none⟩) n c (l.set k x) := by
  have := (World.ownsRow.stored h k (f x)).1
  unfold ROwn
  rw [show (l.set k x).map f = (l.map f).set k (f x) from by simp]
  exact this
theorem cap (h : ROwn f e w base A n c l) : n ≤ c := by
  rcases h.2 with ⟨_, rfl⟩ | ⟨g, cap, cur, hv, _, _, hnc, _⟩
  · omega
  · injection hv with _ _ h3
    omega
theorem block {g : Nat} (h : ROwn f e w base (some ⟨g, 0, none⟩) n c l) : base ≤ g ∧ g < w.heap.size := h.lt rfl
theorem size {g : Nat} (h : ROwn f e w base (some ⟨g, 0, none⟩) n c l) : base ≤ w.heap.size := by have := h.block; omega
/-- a literal -/
theorem lit (w : World) (base : Nat) (l : List α) (hb : base ≤ w.heap.size) (hm : l.length ≤ maxLen) :
    ROwn f e (w.alloc (.cells (l.map f).toArray e)) base (some ⟨w.heap.size, 0, none⟩) l.length l.length l := by
  have h := World.ownsRow_lit (e := e) (size := 1) w (l.map f).toArray l.length hb hm (by simp)
  exact h
/-- a made slice with nothing in it -/
theorem made (w : World) (base : Nat) (cur : Array Value) (cap : Nat) (hb : base ≤ w.heap.size) (hm : cap ≤ maxLen) (hs : cur.size = cap) :
    ROwn f e (w.alloc (.cells cur e)) base (some ⟨w.heap.size, 0, none⟩) 0 cap [] := World.ownsRow_made w cur cap hb hm (by omega)
end ROwn
set_option maxRecDepth 100000 in
theorem run_append_row {α : Type} {f : α → Value} {t e : TypeId} {bytes : Nat} (E : Elem f t e bytes) (w : World) (base : Nat) (ty : TypeId) (A : Option Addr) (n c : Nat) (l : List α) (hown : ROwn f e w base A n c l)
    (B : Nat) (A2 : Option Addr) (m c2 : Nat) (l2 : List α) (hl2 : l2.length = m) (hb : Row f w B A2 l2) (hbytes : (n + m) * bytes ≤ 140737488355328) (hm : n + m ≤ maxLen) (hbase : base ≤ w.heap.size) :
    ∃ A' c' w', (Builtin.append_ #[t, t] ty #[.slice A n c, .slice A2 m c2]).run Try.prog w = .ok (.slice A' (n + m) c') w' ∧
      ROwn f e w' base A' (n + m) c' (l ++ l2) ∧ w.grownBy w' (blk A) ∧ (blk A' = blk A ∨ blk A' = some w.heap.size) := by
  obtain ⟨i0, z, hi0, hz0, hz1, hz2, hzc⟩ := E.info
  rcases A2 with _ | ad
  · have hm := hb.none_
    subst hm
    obtain rfl : 0 = m := by simpa using hl2
    refine ⟨A, c, w, ?_, by simpa using hown, World.grownBy.refl w _, .inl rfl⟩
    rcases hown.2 with ⟨hv, rfl⟩ | ⟨g, cap, cur, hv, _, _, hnc, _⟩
    · injection hv with h1 _ h3
      subst h1 h3
      simp [Builtin.append_, run_underlying E.under, sizeOf, typeInfo, hi0, Builtin.lenOf, Builtin.firstCells]
    · injection hv with h1 h2 h3
      subst h1 h3
      simp [Builtin.append_, run_underlying E.under, sizeOf, typeInfo, hi0, Builtin.lenOf, Builtin.firstCells, hnc, storeCells]
  · obtain ⟨v', w', hrun, h2, h3, _, h5⟩ := run_append_own_at (P := Try.prog) w base t ty e i0 z 1 bytes E.under hi0 hz0 hz1 hz2 hzc (by omega) (.slice A n c) n (l.map f) hown
      ad m c2 (l2.map f) (by rw [List.length_map]; omega) hb.news (by intro u hu; obtain ⟨x, _, rfl⟩ := List.mem_map.1 hu; exact E.one x) hm hbytes hbase
    rw [← List.map_append] at h2
    rw [ownBlock_eq] at h3 h5
    rcases h2.2 with ⟨rfl, h0⟩ | ⟨g, cap, cur, rfl, _⟩
    · refine ⟨none, 0, w', ?_, ?_, h3, h5⟩
      · rw [h0]; exact hrun
      · unfold ROwn; rw [h0] at h2 ⊢; exact h2
    · exact ⟨_, cap, w', hrun, h2, h3, h5⟩
theorem wpList_append_row {α : Type} {f : α → Value} {t e : TypeId} {bytes : Nat} (E : Elem f t e bytes) {w : World} {ops : Array Oper} {rest : List Oper} {o : Oper} {a : Act} {Q : Exit → Act → World → Prop} (hw : Region.wanted o (yielded ops a.tmps) = true) (s x : Operand)
    (ho : o.op = .call { callee := .builtin .append, args := #[s, x], argTypes := #[t, t] })
    (base : Nat) (A : Option Addr) (n c : Nat) (l : List α) (hs : a.eval s = .slice A n c) (hown : ROwn f e w base A n c l)
    (B : Nat) (A2 : Option Addr) (m c2 : Nat) (l2 : List α) (hx : a.eval x = .slice A2 m c2) (hl2 : l2.length = m) (hb : Row f w B A2 l2) (hbytes : (n + m) * bytes ≤ 140737488355328) (hm : n + m ≤ maxLen) (hbase : base ≤ w.heap.size)
    (h : ∀ A' c' w', ROwn f e w' base A' (n + m) c' (l ++ l2) → w.grownBy w' (blk A) → (blk A' = blk A ∨ blk A' = some w.heap.size) → wpList Try.prog ops Q rest (a.put o.dst (.slice A' (n + m) c')) w') :
    wpList Try.prog ops Q (o :: rest) a w := by
  obtain ⟨A', c', w', hrun, h2, h3, h4⟩ := run_append_row E w base o.type A n c l hown B A2 m c2 l2 hl2 hb hbytes hm hbase
  refine wpList_step fun K hK => ?_
  rw [if_pos hw]
  unfold Oper.wp execOp
  simp only [ho, resolve, invoke, builtin, Sem.run_bind, Sem.run_pure, Result.andThen_ok, List.map_toArray, List.map_cons, List.map_nil, hs, hx, hrun]
  exact hK _ _ (h A' c' w' h2 h3 h4)
end Go.Proofs.Ytoebeibmmclhpaa

/- Slices of strings: what they hold, copied, compared, looked through, and those that come in. -/
namespace Go.Proofs.Ytoebeibmmclhpaa
open Go.ChangeShapes Go.WideShapes Go.ChangeAt Go.RowKit
set_option maxRecDepth 100000
/-- a string as a value -/
def sval (l : List UInt8) : Value := .string ⟨l.toArray⟩
theorem string_info : (Try.prog.info? 9).map (fun i => (i.zero, i.size, i.bytes)) = some (some (.string ⟨#[]⟩), 1, 16) := by kernel_rfl
theorem elemStr : Elem sval 60 9 16 := ⟨fun _ => rfl, Try.underlying60, by
  obtain ⟨i0, hi0, hz0, hz1, hz2⟩ := info_parts string_info
  exact ⟨i0, _, hi0, hz0, hz1, hz2, rfl⟩⟩
/-- A slice with address A holds the strings t, in a block below B. -/
abbrev Strs (w : World) (B : Nat) (A : Option Addr) (t : List (List UInt8)) : Prop := Row sval w B A t
/-- The slice at A, of n strings, is t, in a block from 'base' on that nothing else holds. -/
abbrev SOwn (w : World) (base : Nat) (A : Option Addr) (n c : Nat) (t : List (List UInt8)) : Prop := ROwn sval 9 w base A n c t
end Go.Proofs.Ytoebeibmmclhpaa

/- A map of one's own from strings to numbers. -/
namespace Go.Proofs.Ytoebeibmmclhpaa
open Go.RowKit Go.Maps Go.WideMaps
set_option maxRecDepth 100000
theorem strLaw : Keyed Try.prog 9 := string_keyed Try.underlying9
theorem strKey {s : List UInt8} (h : s.length ≤ maxLen) : keyOf Try.prog 9 (.string ⟨s.toArray⟩) = some (.string s) := by
  have := keyOf_string_mk (P := Try.prog) (s := ⟨s.toArray⟩) Try.underlying9 (by rw [ByteArray.size, List.size_toArray]; exact h)
  rw [this]
/-- what a datum says of the string s -/
def SaysS (q : IntKind) (D : DataW Unit) (s : List UInt8) : Option Int → Prop
  | none => Maps.has D (.string s) = false
  | some p => Maps.has D (.string s) = true ∧ D.atKey (.string s) (.lit (.int q 0)) = .lit (.int q p)
/-- block M is a map of at most n strings, that tells f -/
def StrMap (q : IntKind) (e : TypeId) (w : World) (M n : Nat) (f : List UInt8 → Option Int) : Prop :=
  ∃ (D : DataW Unit), w.ownsMap Try.prog 9 (plainElem Try.prog e) M n D ∧ ∀ s, SaysS q D s (f s)
theorem ne_str {s s' : List UInt8} (h : s ≠ s') : (Lit.string s) ≠ (Lit.string s') := fun e => by
  injection e with e
  exact h e
theorem saysS_put {q : IntKind} {D : DataW Unit} {f : List UInt8 → Option Int} (hD : IsMap D) (h : ∀ s, SaysS q D s (f s)) (s : List UInt8) (v : Int) (s' : List UInt8) :
    SaysS q (D.put (.string s) (.lit (.int q v))) s' (if s' = s then some v else f s') := by
  by_cases e : s' = s
  · subst e
    rw [if_pos rfl]
    exact ⟨has_put_same hD (by simp [WideAt.IsKeyLit]) _, atKey_put_same hD (by simp [WideAt.IsKeyLit]) _ _⟩
  · rw [if_neg e]
    have := h s'
    match f s', this with
    | none, hs => exact (has_put_other (ne_str e) _).trans hs
    | some p, hs => exact ⟨(has_put_other (ne_str e) _).trans hs.1, (atKey_put_other (ne_str e) _ _).trans hs.2⟩
namespace StrMap
variable {q : IntKind} {e : TypeId} {w w' : World} {M n : Nat} {f : List UInt8 → Option Int}
theorem made (q : IntKind) (e : TypeId) (w : World) : StrMap q e (w.alloc (.map #[] 0)) w.heap.size 0 (fun _ => none) :=
  ⟨.map [], World.ownsMap_made _ _ _ _, fun _ => rfl⟩
theorem kept {row : Option Nat} (h : StrMap q e w M n f) (hg : w.grownBy w' row) (hne : some M ≠ row) : StrMap q e w' M n f := by
  obtain ⟨D, ho, hs⟩ := h
  exact ⟨D, ho.kept hg hne, hs⟩
theorem lt (h : StrMap q e w M n f) : M < w.heap.size := by
  obtain ⟨D, ho, _⟩ := h
  exact ho.lt
theorem mono {n' : Nat} (h : StrMap q e w M n f) (hn : n ≤ n') : StrMap q e w M n' f := by
  obtain ⟨D, ho, hs⟩ := h
  exact ⟨D, ho.mono hn, hs⟩
theorem drawn (h : StrMap q e w M n f) (hd : Drawn w w') : StrMap q e w' M n f := by
  obtain ⟨k, rfl⟩ := hd
  exact h
theorem below (h : StrMap q e w M n f) (hb : Below w.heap.size w w') : StrMap q e w' M n f :=
  h.kept (row := none) ⟨hb.os, hb.tape, hb.output, hb.size, fun j hj _ => hb.block j hj⟩ (by simp)
end StrMap
/-- a look-up -/
theorem run_look_strmap {q : IntKind} {e t : TypeId} {w : World} {M n : Nat} {f : List UInt8 → Option Int} (h : StrMap q e w M n f) (ht : Try.prog.underlying t = some (.map 9 e)) (he : Try.prog.underlying e = some (.int q))
    (hz : ∀ w : World, (zeroValue e).run Try.prog w = .ok (.int q 0) w) {s : List UInt8} (hs : s.length ≤ maxLen) :
    (Instr.lookup t (.map (some M)) (.string ⟨s.toArray⟩) true).run Try.prog w = .ok (.tuple #[.int q ((f s).getD 0), .bool (f s).isSome]) w := by
  obtain ⟨D, ho, hf⟩ := h
  obtain ⟨v, ps, h1, h2⟩ := ho.look_ok strLaw ht (hz w) (plainElem_int (H := Unit) he (by cases q <;> decide)) (strKey hs)
  obtain ⟨a, rfl, h3, _⟩ := plainElem_int_inv he h2
  have h4 := congrArg Prod.fst h3
  have h5 := hf s
  rw [h1]
  match f s, h5 with
  | none, h5 =>
    change D.atKey _ _ = _ at h4
    rw [atKey_of_not_has h5] at h4
    injection h4 with h4
    injection h4 with _ h4
    rw [h5, ← h4]; rfl
  | some p, h5 =>
    change D.atKey _ _ = _ at h4
    rw [h5.2] at h4
    injection h4 with h4
    injection h4 with _ h4
    rw [h5.1, ← h4]; rfl
/-- .. without ok -/
theorem run_look1_strmap {q : IntKind} {e t : TypeId} {w : World} {M n : Nat} {f : List UInt8 → Option Int} (h : StrMap q e w M n f) (ht : Try.prog.underlying t = some (.map 9 e)) (he : Try.prog.underlying e = some (.int q))
    (hz : ∀ w : World, (zeroValue e).run Try.prog w = .ok (.int q 0) w) {s : List UInt8} (hs : s.length ≤ maxLen) :
    (Instr.lookup t (.map (some M)) (.string ⟨s.toArray⟩) false).run Try.prog w = .ok (.int q ((f s).getD 0)) w := by
  obtain ⟨D, ho, hf⟩ := h
  obtain ⟨c, h1, h2, _⟩ := ho.lookup_int strLaw ht he (hz w) (strKey hs)
  rw [h1]
  have h5 := hf s
  match f s, h5 with
  | none, h5 =>
    rw [atKey_of_not_has h5] at h2
    injection h2 with h4
    injection h4 with _ h4
    rw [← h4]; rfl
  | some p, h5 =>
    rw [h5.2] at h2
    injection h2 with h4
    injection h4 with _ h4
    rw [← h4]; rfl
/-- a store -/
theorem run_put_strmap {q : IntKind} {e t : TypeId} {w : World} {M n : Nat} {f : List UInt8 → Option Int} (h : StrMap q e w M n f) (ht : Try.prog.underlying t = some (.map 9 e)) (he : Try.prog.underlying e = some (.int q))
    (hn : n < maxLen) {s : List UInt8} (hs : s.length ≤ maxLen) {v : Int} (hv : (Lit.int q v).wf = true) :
    ∃ w', (Instr.mapUpdate t (.map (some M)) (.string ⟨s.toArray⟩) (.int q v)).run Try.prog w = .ok () w' ∧ StrMap q e w' M (n + 1) (fun s' => if s' = s then some v else f s') ∧ w.grownBy w' (some M) := by
  obtain ⟨D, ho, hf⟩ := h
  obtain ⟨w', h1, h2, h3⟩ := ho.update strLaw ht hn (strKey hs) (plainElem_int (H := Unit) he hv)
  exact ⟨w', h1, ⟨_, h2, saysS_put ho.isMap hf s v⟩, h3⟩
end Go.Proofs.Ytoebeibmmclhpaa

/- dragnetref01.Same: are two byte slices alike? -/
namespace Go.Proofs.Ytoebeibmmclhpaa
open Go.RowKit
set_option maxRecDepth 100000
theorem run_string_of {w : World} {B : Nat} {A : Option Addr} {l : List UInt8} (hb : Bytes w B A l) (c : Nat) :
    (convert 22 9 (.slice A l.length c)).run Try.prog w = .ok (.string ⟨l.toArray⟩) w := by
  rcases A with _ | ad
  · have hl : l = [] := by
      rcases Classical.em (l = []) with h | h
      · exact h
      · obtain ⟨_, h, _⟩ := hb h; cases h
    subst hl
    exact Lib.run_convert_nil_bytes w 22 9 5 c Try.underlying22 Try.underlying5 Try.underlying9
  · refine run_convert_bytes_back w 22 9 5 ad c l Try.underlying22 Try.underlying5 Try.underlying9 fun j hj => ?_
    obtain ⟨ad', h, _, hc⟩ := hb (fun e => by subst e; simp at hj)
    cases h
    exact hc j hj
theorem same_any (A1 A2 : Option Addr) (n1 n2 c1 c2 B1 B2 : Nat) (l1 l2 : List UInt8) (w : World) (hl1 : l1.length = n1) (hl2 : l2.length = n2) (hb1 : Bytes w B1 A1 l1) (hb2 : Bytes w B2 A2 l2) :
    Calls Try.prog 6 #[.slice A1 n1 c1, .slice A2 n2 c2] w fun e w' => e = .returned (.bool (l1 == l2)) ∧ w = w' := by
  have h1 := run_string_of hb1 c1
  have h2 := run_string_of hb2 c2
  rw [hl1] at h1
  rw [hl2] at h2
  clear hl1 hl2 hb1 hb2
  go_enter Try.func6, Try.ntmps6
  go_wp2
  go_ret
  exact ⟨rfl, rfl⟩
end Go.Proofs.Ytoebeibmmclhpaa

/- sym.countPieces. -/
namespace Go.Proofs.Ytoebeibmmclhpaa
open Go.RowKit Go.Maps
set_option maxRecDepth 100000
theorem zeroI64 (w : World) : (zeroValue 3).run Try.prog w = .ok (.int .i64 0) w := by kernel_rfl
/-- block M counts the pieces of a list -/
def Counts (w : World) (M : Nat) (P : List (List UInt8)) : Prop := StrMap .i64 3 w M P.length (Sym.cnt P)
/-- counted once more -/
theorem counts_step {w : World} {M : Nat} {P : List (List UInt8)} (h : Counts w M P) (hP : P.length < 1000000) {p : List UInt8} (hp : p.length ≤ 8) :
    (Instr.lookup 73 (.map (some M)) (.string ⟨p.toArray⟩) false).run Try.prog w = .ok (.int .i64 (P.count p : Int)) w ∧
    ∃ w', (Instr.mapUpdate 73 (.map (some M)) (.string ⟨p.toArray⟩) (.int .i64 ((P.count p : Int) + 1))).run Try.prog w = .ok () w' ∧ Counts w' M (P ++ [p]) ∧ w.grownBy w' (some M) := by
  have hc : P.count p ≤ P.length := List.count_le_length
  have h1 := run_look1_strmap h Try.underlying73 Try.underlying3 zeroI64 (s := p) (by unfold maxLen; omega)
  rw [Sym.cnt_get] at h1
  obtain ⟨w', h2, h3, h4⟩ := run_put_strmap h Try.underlying73 Try.underlying3 (by unfold maxLen; omega) (s := p) (by unfold maxLen; omega) (v := (P.count p : Int) + 1) (WalkArith.wf_i64 ⟨by omega, by omega⟩)
  rw [Sym.cnt_step] at h3
  refine ⟨h1, w', h2, ?_, h4⟩
  unfold Counts
  rw [List.length_append]
  exact h3
set_option maxHeartbeats 4000000 in
theorem countPieces_any (A : Option Addr) (n cap B : Nat) (ss : List (List UInt8)) (w : World) (hl : ss.length = n) (hn : n ≤ 140737488355328) (hs : ∀ s ∈ ss, s.length ≤ 140737488351232) (h1 : Samples w B A ss) (hB : B ≤ w.heap.size) :
    Calls Try.prog 43 #[.slice A n cap] w fun e w' => e = .returned (.map (some w.heap.size)) ∧ Counts w' w.heap.size (Sym.pieces ss 1024) ∧ Below w.heap.size w w' := by
  have Hl := Lib.hid hl; clear hl
  have Hs := Lib.hid hs; clear hs
  have h1' := h1.wide hB
  clear h1
  obtain ⟨M, hM⟩ : ∃ M, M = w.heap.size := ⟨_, rfl⟩
  have HM := Lib.hid hM
  have hmm := @run_makeMap Try.prog
  go_enter Try.func43, Try.ntmps43
  go_wp2
  rw [← hM] at h1' ⊢
  clear hmm hM
  go_loopg [4, 12] n (fun g lv i wx => ∃ k : Nat, k + g = n ∧ i = .int .i64 (k : Int) ∧ lv = .int .i64 ((1024 - Sym.tot (ss.take k) : Nat) : Int) ∧ Counts wx M (Sym.pieces (ss.take k) 1024) ∧ Below M w wx)
  case atStart => exact ⟨0, by omega, rfl, rfl, by rw [HM.out]; exact StrMap.made _ _ _, by rw [HM.out]; exact (Below.refl _ _).alloc (Nat.le_refl _) _⟩
  case round =>
    obtain ⟨k, hkg, rfl, rfl, hct, hbel⟩ := hrel
    by_cases hkn : k < n
    · have hkn' : (k : Int) < (n : Int) := by omega
      have hk' : k < ss.length := by rw [Hl.out]; exact hkn
      obtain ⟨ad, Ai, ci, rfl, hadb, hci, hcell, hbi⟩ := (h1'.below hbel).at_ hk'
      have hsl := Hs.out _ (List.getElem_mem hk')
      have hstep := Sym.pieces_snoc (ss.take k) ss[k] 1024
      rw [← List.take_succ_eq_append_getElem hk'] at hstep
      have htot : Sym.tot (ss.take (k + 1)) = Sym.tot (ss.take k) + ss[k].length := by
        rw [List.take_succ_eq_append_getElem hk', Sym.tot_append]
        simp [Sym.tot]
      have HST := Lib.hid hstep
      have HTT : Hid (1024 - Sym.tot (ss.take (k + 1)) = 1024 - Sym.tot (ss.take k) - ss[k].length) := Lib.hid (by omega)
      clear hstep htot
      have hPl := Sym.pieces_length (ss.take k) 1024
      have hL : 1024 - Sym.tot (ss.take k) ≤ 1024 := by omega
      generalize Sym.pieces (ss.take k) 1024 = P at *
      generalize 1024 - Sym.tot (ss.take k) = L at *
      have hml : (ss[k].take L).length = min ss[k].length L := by rw [List.length_take]; omega
      have hbt := hbi.take L
      generalize hx : ss[k] = x at *
      clear hx hbi
      obtain ⟨G, rfl⟩ : ∃ G, G = gk := ⟨_, rfl⟩
      obtain ⟨wx, rfl⟩ : ∃ wx, wx = wr := ⟨_, rfl⟩
      obtain ⟨mm, hmm⟩ : ∃ mm, mm = min x.length L := ⟨_, rfl⟩
      rw [← hmm] at hml
      have hmm1 : mm ≤ 1024 := by omega
      have HLM : Hid (((L : Int) - (mm : Int)) = ((L - x.length : Nat) : Int)) := Lib.hid (by omega)
      have hmci : mm ≤ ci := by omega
      have hLmm : mm ≤ L := by omega
      have hcase : ((x.length : Int) ≤ (L : Int) ∧ x.length = mm) ∨ (¬ ((x.length : Int) ≤ (L : Int)) ∧ L = mm) := by omega
      have hcutA : x.length = mm → ∀ W : World, (Instr.slice 22 (.slice Ai x.length ci) none (some (.int .i64 (x.length : Int))) none).run Try.prog W = .ok (.slice Ai mm ci) W := fun e W => by rw [run_cut_h Ai x.length ci x.length hci W, e]
      have hcutB : L = mm → ∀ W : World, (Instr.slice 22 (.slice Ai x.length ci) none (some (.int .i64 (L : Int))) none).run Try.prog W = .ok (.slice Ai mm ci) W := fun e W => by rw [run_cut_h Ai x.length ci L (by omega) W, e]
      generalize x.take L = y at *
      have Hml := Lib.hid hml
      have HLM2 : Hid ((1024 - Sym.tot (ss.take (k + 1)) : Nat) = L - x.length) := Lib.hid HTT.out
      clear hmm hml HTT
      rcases hcase with ⟨hxL, hmeq⟩ | ⟨hxL, hmeq⟩
      all_goals
        first | (have hcut := hcutA hmeq) | (have hcut := hcutB hmeq)
        clear hcutA hcutB hmeq
        go_wp2
        go_loopg [28] mm (fun g2 i2 wy => ∃ q : Nat, q + g2 = mm ∧ i2 = .int .i64 (q : Int) ∧ Counts wy M (P ++ Sym.occTo y q) ∧ Below M wx wy)
        case atStart => exact ⟨0, by omega, rfl, by rw [Sym.occTo, List.append_nil]; exact hct, Below.refl _ _⟩
        case round =>
          clear hct hcell hcut
          obtain ⟨q, hqg, rfl, hct, hbq⟩ := hrel
          obtain ⟨G2, rfl⟩ : ∃ G2, G2 = gk := ⟨_, rfl⟩
          obtain ⟨wq, rfl⟩ : ∃ wq, wq = wr := ⟨_, rfl⟩
          by_cases hqm : q < mm
          · have hqm' : (q : Int) < (mm : Int) := by omega
            have HNA : Hid (Sym.nAt y q = min 8 (mm - q) - 1) := Lib.hid (by unfold Sym.nAt; rw [Hml.out])
            have hol := Sym.occTo_length y q
            have HOS := Lib.hid (Sym.occTo_step y q)
            generalize Sym.occTo y q = O at *
            go_wp2
            go_loopg [8] (min 8 (mm - q) - 1) (fun g3 nv wz => ∃ j : Nat, j + g3 = min 8 (mm - q) - 1 ∧ nv = .int .i64 ((j : Int) + 2) ∧ Counts wz M (P ++ (O ++ Sym.posK y q j)) ∧ Below M wx wz)
            case atStart => exact ⟨0, by omega, rfl, by rw [Sym.posK_zero, List.append_nil]; exact hct, hbq⟩
            case round =>
              clear hct hbq
              obtain ⟨j, hjg, rfl, hct, hbz⟩ := hrel
              by_cases hj : j < min 8 (mm - q) - 1
              · have hj8 : (j : Int) + 2 ≤ 8 := by omega
                have hjm : (q : Int) + ((j : Int) + 2) ≤ (mm : Int) := by omega
                have hbz2 := (hbt.below hbz)
                have hbc := (hbz2.cut (k := q) (cap := ci) (by rw [Hml.out]; omega) (by rw [Hml.out]; exact hmci)).take (j + 2)
                have hlc : ((y.drop q).take (j + 2)).length = j + 2 := by rw [List.length_take, List.length_drop, Hml.out]; omega
                have hcv := run_string_of hbc (ci - q)
                rw [hlc] at hcv
                have hcut2 := run_cut_lh Ai mm ci q (q + (j + 2)) (by omega) (by omega)
                rw [show q + (j + 2) - q = j + 2 from by omega, show ((q + (j + 2) : Nat) : Int) = (q : Int) + ((j : Int) + 2) from by omega] at hcut2
                obtain ⟨hlook, w2, hput, hct2, hg2⟩ := counts_step hct (by rw [List.length_append, List.length_append, Sym.posK_length]; omega) (p := (y.drop q).take (j + 2)) (by omega)
                have HPS := Lib.hid (Sym.posK_step y q j)
                have hbz2' : Below M wx w2 := hbz.grown hg2 (Nat.le_of_lt (StrMap.lt hct)) (fun r hr => by cases hr; exact Nat.le_refl _)
                have hcle := List.count_le_length (a := (y.drop q).take (j + 2)) (l := P ++ (O ++ Sym.posK y q j))
                rw [List.length_append, List.length_append, Sym.posK_length] at hcle
                rw [List.append_assoc, List.append_assoc, ← HPS.out] at hct2
                generalize List.count ((y.drop q).take (j + 2)) (P ++ (O ++ Sym.posK y q j)) = C at *
                generalize (y.drop q).take (j + 2) = p at *
                generalize cutAt Ai ci q = A3 at *
                clear hct hbz hbc hbz2 hg2 HPS hlc
                go_wp2
                go_roundg (min 8 (mm - q) - 1 - (j + 1))
                case measure => omega
                case rel => exact ⟨j + 1, by omega, congrArg (Value.int IntKind.i64) (by omega), hct2, hbz2'⟩
              · have hjn : j = Sym.nAt y q := by rw [HNA.out]; omega
                rw [hjn, ← HOS.out] at hct
                by_cases hj8 : (j : Int) + 2 ≤ 8
                · have hjm : ¬ ((q : Int) + ((j : Int) + 2) ≤ (mm : Int)) := by omega
                  clear hjn
                  go_wp2
                  go_roundg (mm - (q + 1))
                  case measure => omega
                  case rel => exact ⟨q + 1, by omega, by go_num, hct, hbz⟩
                · clear hjn
                  go_wp2
                  go_roundg (mm - (q + 1))
                  case measure => omega
                  case rel => exact ⟨q + 1, by omega, by go_num, hct, hbz⟩
          · have hqm' : ¬ ((q : Int) < (mm : Int)) := by omega
            have hq : q = y.length := by rw [Hml.out]; omega
            rw [hq] at hct
            have hct' : Counts wq M (Sym.pieces (ss.take (k + 1)) 1024) := by rw [HST.out]; exact hct
            have hbel' := hbel.trans hbq
            clear hq hct
            go_wp2
            go_roundg (n - (k + 1))
            case measure => omega
            case rel => exact ⟨k + 1, by omega, by go_num, congrArg (Value.int IntKind.i64) (by rw [HLM2.out, ← HLM.out]), hct', hbel'⟩
    · have hkn' : ¬ ((k : Int) < (n : Int)) := by omega
      have HE : Hid (Sym.pieces ss 1024 = Sym.pieces (ss.take k) 1024) := Lib.hid (by rw [List.take_of_length_le (by rw [Hl.out]; omega)])
      go_wp2
      go_ret
      exact ⟨by rw [HM.out]; rfl, by rw [HE.out, ← HM.out]; exact hct, by rw [← HM.out]; exact hbel⟩
end Go.Proofs.Ytoebeibmmclhpaa
