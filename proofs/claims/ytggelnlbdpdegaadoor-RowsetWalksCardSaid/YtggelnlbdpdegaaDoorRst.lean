/- Sets of rows in plain terms: lists of bits, and the words of 64 bits that they are packed into. No program. -/
namespace Go.Proofs.YtggelnlbdpdegaaDoor.Rst

/-- the number whose bits are p 0 .. p (k - 1) -/
def num (p : Nat → Bool) : Nat → Nat
  | 0 => 0
  | k + 1 => num p k + (if p k then 2 ^ k else 0)
theorem num_lt (p : Nat → Bool) : ∀ k, num p k < 2 ^ k
  | 0 => by simp [num]
  | k + 1 => by
    have := num_lt p k
    simp only [num, Nat.pow_succ]
    split <;> omega
theorem num_bit (p : Nat → Bool) (j : Nat) : ∀ k, (num p k).testBit j = (decide (j < k) && p j)
  | 0 => by simp [num]
  | k + 1 => by
    have ih := num_bit p j k
    have hlt := num_lt p k
    have hlt' := num_lt p (k + 1)
    rcases Nat.lt_trichotomy j k with h | h | h
    · simp only [num]
      split
      · rw [Nat.add_comm, Nat.testBit_two_pow_add_gt h, ih]; simp [h]; omega
      · rw [Nat.add_zero, ih]; simp [h]; omega
    · subst h
      simp only [num]
      split
      · rename_i hp
        rw [Nat.add_comm, Nat.testBit_two_pow_add_eq, ih]; simp [hp]
      · rename_i hp
        rw [Nat.add_zero, ih]; simp [hp]
    · rw [Nat.testBit_lt_two_pow (Nat.lt_of_lt_of_le hlt' (Nat.pow_le_pow_right (by omega) h))]
      simp; omega

theorem u64_lt (x : UInt64) : x.toNat < 2 ^ 64 := x.toNat_lt
theorem u64_ofNat {x : Nat} (h : x < 2 ^ 64) : (UInt64.ofNat x).toNat = x := by rw [UInt64.toNat_ofNat']; exact Nat.mod_eq_of_lt h
theorem u64_bit (x : UInt64) {j : Nat} (h : 64 ≤ j) : x.toNat.testBit j = false :=
  Nat.testBit_lt_two_pow (Nat.lt_of_lt_of_le (u64_lt x) (Nat.pow_le_pow_right (by omega) h))
theorem u64_ext {x y : UInt64} (h : ∀ j, j < 64 → x.toNat.testBit j = y.toNat.testBit j) : x = y := by
  apply UInt64.toNat_inj.1
  apply Nat.eq_of_testBit_eq
  intro j
  rcases Nat.lt_or_ge j 64 with hj | hj
  · exact h j hj
  · rw [u64_bit x hj, u64_bit y hj]

/-- how many words n bits need -/
def need (n : Nat) : Nat := (n + 63) / 64
/-- bit i of the words -/
def bit (ws : List UInt64) (i : Nat) : Bool := (ws.getD (i / 64) 0).toNat.testBit (i % 64)
def bitsOf (n : Nat) (ws : List UInt64) : List Bool := (List.range n).map (bit ws)
def word (l : List Bool) (k : Nat) : UInt64 := UInt64.ofNat (num (fun j => l.getD (64 * k + j) false) 64)
def pack (l : List Bool) : List UInt64 := (List.range (need l.length)).map (word l)

theorem pack_length (l : List Bool) : (pack l).length = need l.length := by simp [pack]
theorem bitsOf_length (n : Nat) (ws : List UInt64) : (bitsOf n ws).length = n := by simp [bitsOf]
theorem bitsOf_get {n : Nat} {ws : List UInt64} {i : Nat} (h : i < n) : (bitsOf n ws)[i]'(by rw [bitsOf_length]; exact h) = bit ws i := by simp [bitsOf]
theorem bitsOf_getD {n : Nat} {ws : List UInt64} {i : Nat} (h : i < n) : (bitsOf n ws).getD i false = bit ws i := by
  rw [List.getD_eq_getElem?_getD, List.getElem?_eq_getElem (by rw [bitsOf_length]; exact h), Option.getD_some, bitsOf_get h]
theorem bit_get {ws : List UInt64} {i : Nat} (h : i / 64 < ws.length) : bit ws i = ws[i / 64].toNat.testBit (i % 64) := by
  unfold bit
  rw [List.getD_eq_getElem?_getD, List.getElem?_eq_getElem h, Option.getD_some]
theorem bit_out {ws : List UInt64} {i : Nat} (h : ws.length ≤ i / 64) : bit ws i = false := by
  unfold bit
  rw [List.getD_eq_getElem?_getD, List.getElem?_eq_none h]
  simp
theorem ext {ws vs : List UInt64} (hl : ws.length = vs.length) (h : ∀ i, i < 64 * ws.length → bit ws i = bit vs i) : ws = vs := by
  apply List.ext_getElem hl
  intro k h1 h2
  apply u64_ext
  intro j hj
  have := h (64 * k + j) (by omega)
  rw [bit_get (by omega), bit_get (by omega)] at this
  have e1 : (64 * k + j) / 64 = k := by omega
  have e2 : (64 * k + j) % 64 = j := by omega
  simp only [e1, e2] at this
  exact this
theorem word_bit (l : List Bool) (k j : Nat) : (word l k).toNat.testBit j = (decide (j < 64) && l.getD (64 * k + j) false) := by
  unfold word
  rw [u64_ofNat (num_lt _ 64), num_bit]
theorem bit_pack (l : List Bool) (i : Nat) : bit (pack l) i = l.getD i false := by
  rcases Nat.lt_or_ge (i / 64) (need l.length) with h | h
  · rw [bit_get (by rw [pack_length]; exact h)]
    have e : (pack l)[i / 64]'(by rw [pack_length]; exact h) = word l (i / 64) := by simp [pack]
    rw [e, word_bit]
    have h1 : i % 64 < 64 := by omega
    have h2 : 64 * (i / 64) + i % 64 = i := by omega
    simp [h1, h2]
  · rw [bit_out (by rw [pack_length]; exact h)]
    unfold need at h
    rw [List.getD_eq_getElem?_getD, List.getElem?_eq_none (by omega)]
    rfl
theorem bitsOf_pack (l : List Bool) : bitsOf l.length (pack l) = l := by
  apply List.ext_getElem (bitsOf_length _ _)
  intro i h1 h2
  rw [bitsOf_get h2, bit_pack, List.getD_eq_getElem?_getD, List.getElem?_eq_getElem h2]
  rfl
theorem pack_inj {l m : List Bool} (hl : l.length = m.length) (h : pack l = pack m) : l = m := by
  rw [← bitsOf_pack l, ← bitsOf_pack m, h, hl]
theorem pack_bitsOf {n : Nat} {ws : List UInt64} (hl : ws.length = need n) (h : ∀ i, n ≤ i → bit ws i = false) : pack (bitsOf n ws) = ws := by
  apply ext (by rw [pack_length, bitsOf_length, hl])
  intro i _
  rw [bit_pack]
  rcases Nat.lt_or_ge i n with h1 | h1
  · exact bitsOf_getD h1
  · rw [h i h1, List.getD_eq_getElem?_getD, List.getElem?_eq_none (by rw [bitsOf_length]; exact h1)]; rfl
theorem tail_of_pack {n : Nat} {ws : List UInt64} (h : pack (bitsOf n ws) = ws) (i : Nat) (hi : n ≤ i) : bit ws i = false := by
  rw [← h, bit_pack, List.getD_eq_getElem?_getD, List.getElem?_eq_none (by rw [bitsOf_length]; exact hi)]; rfl

/-- is it a set? as the landed code asks -/
def formed (N : Int) (ws : List UInt64) : Bool :=
  decide (0 ≤ N ∧ N ≤ 4096 ∧ ws.length = need N.toNat) && (N.toNat % 64 == 0 || (ws.getD (ws.length - 1) 0).toNat / 2 ^ (N.toNat % 64) == 0)
theorem formed_pack {l : List Bool} (h : l.length ≤ 4096) : formed (l.length : Int) (pack l) = true := by
  unfold formed
  rw [Bool.and_eq_true]
  refine ⟨decide_eq_true ⟨by omega, by omega, by rw [pack_length]; rfl⟩, ?_⟩
  rw [Bool.or_eq_true]
  rcases Nat.eq_zero_or_pos (l.length % 64) with h0 | h0
  · left; simpa using h0
  · right
    rw [beq_iff_eq, Int.toNat_natCast]
    apply Nat.div_eq_of_lt
    apply Nat.lt_pow_two_of_testBit
    intro j hj
    rcases Nat.lt_or_ge j 64 with h64 | h64
    · have hn : need l.length = l.length / 64 + 1 := by unfold need; omega
      have hb := bit_pack l (64 * (l.length / 64) + j)
      unfold bit at hb
      have e1 : (64 * (l.length / 64) + j) / 64 = l.length / 64 := by omega
      have e2 : (64 * (l.length / 64) + j) % 64 = j := by omega
      rw [e1, e2] at hb
      rw [pack_length, hn, Nat.add_sub_cancel, hb, List.getD_eq_getElem?_getD, List.getElem?_eq_none (by omega)]
      rfl
    · exact u64_bit _ h64
theorem tail_of_formed {n : Nat} {ws : List UInt64} (hl : ws.length = need n) (h : n % 64 = 0 ∨ (ws.getD (ws.length - 1) 0).toNat / 2 ^ (n % 64) = 0) (i : Nat) (hi : n ≤ i) : bit ws i = false := by
  rcases Nat.lt_or_ge (i / 64) ws.length with h1 | h1
  · unfold need at hl
    rcases h with h | h
    · omega
    · have hk : i / 64 = ws.length - 1 := by omega
      unfold bit
      rw [hk]
      generalize (ws.getD (ws.length - 1) 0).toNat = x at *
      have hx : x < 2 ^ (n % 64) := by
        rcases Nat.lt_or_ge x (2 ^ (n % 64)) with h2 | h2
        · exact h2
        · have := Nat.div_pos h2 (Nat.two_pow_pos _); omega
      exact Nat.testBit_lt_two_pow (Nat.lt_of_lt_of_le hx (Nat.pow_le_pow_right (by omega) (by omega)))
  · exact bit_out h1
theorem formed_iff {N : Int} {ws : List UInt64} : formed N ws = true ↔ ∃ l : List Bool, l.length ≤ 4096 ∧ N = (l.length : Int) ∧ ws = pack l := by
  constructor
  · intro h
    unfold formed at h
    rw [Bool.and_eq_true, decide_eq_true_iff, Bool.or_eq_true, beq_iff_eq, beq_iff_eq] at h
    obtain ⟨⟨h0, h1, h2⟩, h3⟩ := h
    refine ⟨bitsOf N.toNat ws, by rw [bitsOf_length]; omega, by rw [bitsOf_length]; omega, (pack_bitsOf h2 (tail_of_formed h2 h3)).symm⟩
  · rintro ⟨l, h, rfl, rfl⟩
    exact formed_pack h
/-- as the document asks -/
theorem formed_ref {n : Nat} {ws : List UInt64} (hn : n ≤ 4096) (hl : ws.length = need n) : formed (n : Int) ws = decide (pack (bitsOf n ws) = ws) := by
  rw [Bool.eq_iff_iff, decide_eq_true_iff, formed_iff]
  constructor
  · rintro ⟨l, _, h1, rfl⟩
    obtain rfl : n = l.length := by omega
    rw [bitsOf_pack]
  · intro h
    exact ⟨bitsOf n ws, by rw [bitsOf_length]; exact hn, by rw [bitsOf_length], h.symm⟩
theorem formed_range {N : Int} {ws : List UInt64} (h : formed N ws = true) : 0 ≤ N ∧ N ≤ 4096 ∧ ws.length = need N.toNat := by
  obtain ⟨l, h1, rfl, rfl⟩ := formed_iff.1 h
  exact ⟨by omega, by omega, by rw [pack_length]; rfl⟩
theorem formed_not_range {N : Int} {ws : List UInt64} (h : ¬ (0 ≤ N ∧ N ≤ 4096 ∧ ws.length = need N.toNat)) : formed N ws = false := by
  rcases hf : formed N ws with _ | _
  · rfl
  · exact absurd (formed_range hf) h

theorem getD_set {α : Type} (l : List α) (i j : Nat) (x d : α) (h : i < l.length) : (l.set i x).getD j d = if i = j then x else l.getD j d := by
  simp only [List.getD_eq_getElem?_getD, List.getElem?_set]
  by_cases e : i = j
  · subst e; simp [h]
  · rw [if_neg e, if_neg e]
theorem bit_set {ws : List UInt64} {k : Nat} {x : UInt64} (h : k < ws.length) (i : Nat) : bit (ws.set k x) i = if k = i / 64 then x.toNat.testBit (i % 64) else bit ws i := by
  unfold bit
  rw [getD_set _ _ _ _ _ h]
  split <;> rfl

/-- a row is put in -/
theorem or_lt {x j : Nat} (hx : x < 2 ^ 64) (hj : j < 64) : x ||| 2 ^ j < 2 ^ 64 := Nat.or_lt_two_pow hx (Nat.pow_lt_pow_right (by omega) hj)
theorem add_row {l : List Bool} {r : Nat} (hr : r < l.length) :
    (pack l).set (r / 64) (UInt64.ofNat (((pack l).getD (r / 64) 0).toNat ||| 2 ^ (r % 64))) = pack (l.set r true) := by
  have hk : r / 64 < (pack l).length := by rw [pack_length]; unfold need; omega
  apply ext (by rw [List.length_set, pack_length, pack_length, List.length_set])
  intro i _
  rw [bit_set hk, bit_pack l, bit_pack (l.set r true), getD_set _ _ _ _ _ hr]
  by_cases h1 : r / 64 = i / 64
  · rw [if_pos h1, u64_ofNat (or_lt (u64_lt _) (by omega)), Nat.testBit_or, Nat.testBit_two_pow]
    have hb := bit_pack l i
    unfold bit at hb
    rw [h1, hb]
    by_cases h2 : r = i
    · subst h2; simp
    · have : ¬ r % 64 = i % 64 := by omega
      simp [h2, this]
  · rw [if_neg h1, if_neg (by intro h; subst h; exact h1 rfl)]

theorem bit_append_zero (ws : List UInt64) (i : Nat) : bit (ws ++ [0]) i = bit ws i := by
  unfold bit
  rcases Nat.lt_trichotomy (i / 64) ws.length with h | h | h
  · simp [List.getD_eq_getElem?_getD, List.getElem?_append_left h]
  · simp [List.getD_eq_getElem?_getD, h]
  · have h1 : ws.length + 1 ≤ i / 64 := h
    simp only [List.getD_eq_getElem?_getD, List.getElem?_eq_none (show ws.length ≤ i / 64 by omega)]
    rw [List.getElem?_eq_none (by simp; omega)]
/-- the words, with one more where the next bit needs it -/
def room (t : List Bool) : List UInt64 := if t.length % 64 = 0 then pack t ++ [0] else pack t
theorem room_length (t : List Bool) : (room t).length = need (t.length + 1) := by
  unfold room
  have := pack_length t
  unfold need at *
  split
  · simp; omega
  · omega
theorem bit_room (t : List Bool) (i : Nat) : bit (room t) i = t.getD i false := by
  unfold room
  split
  · rw [bit_append_zero, bit_pack]
  · exact bit_pack t i
theorem getD_snoc (t : List Bool) (b : Bool) (i : Nat) : (t ++ [b]).getD i false = if i = t.length then b else t.getD i false := by
  simp only [List.getD_eq_getElem?_getD]
  rcases Nat.lt_trichotomy i t.length with h | h | h
  · rw [List.getElem?_append_left h, if_neg (by omega)]
  · subst h; simp
  · rw [List.getElem?_eq_none (by simp; omega), List.getElem?_eq_none (by omega), if_neg (by omega)]
theorem snoc_false (t : List Bool) : room t = pack (t ++ [false]) := by
  apply ext (by rw [room_length, pack_length]; simp)
  intro i _
  rw [bit_room, bit_pack, getD_snoc]
  split
  · subst_vars; simp
  · rfl
theorem room_small (t : List Bool) : ((room t).getD (t.length / 64) 0).toNat < 2 ^ (t.length % 64) := by
  apply Nat.lt_pow_two_of_testBit
  intro j hj
  rcases Nat.lt_or_ge j 64 with h64 | h64
  · have hb := bit_room t (64 * (t.length / 64) + j)
    unfold bit at hb
    have e1 : (64 * (t.length / 64) + j) / 64 = t.length / 64 := by omega
    have e2 : (64 * (t.length / 64) + j) % 64 = j := by omega
    rw [e1, e2] at hb
    rw [hb, List.getD_eq_getElem?_getD, List.getElem?_eq_none (by omega)]
    rfl
  · exact u64_bit _ h64
theorem snoc_true (t : List Bool) : (room t).set (t.length / 64) (UInt64.ofNat (((room t).getD (t.length / 64) 0).toNat + 2 ^ (t.length % 64))) = pack (t ++ [true]) := by
  have hk : t.length / 64 < (room t).length := by rw [room_length]; unfold need; omega
  have hs := room_small t
  apply ext (by rw [List.length_set, room_length, pack_length]; simp)
  intro i _
  rw [bit_set hk, bit_pack, getD_snoc]
  by_cases h1 : t.length / 64 = i / 64
  · have e : ((room t).getD (t.length / 64) 0).toNat + 2 ^ (t.length % 64) = ((room t).getD (t.length / 64) 0).toNat ||| 2 ^ (t.length % 64) := by
      have := Nat.two_pow_add_eq_or_of_lt hs 1; rw [Nat.mul_one] at this; rw [Nat.add_comm, this, Nat.or_comm]
    rw [if_pos h1, e, u64_ofNat (or_lt (u64_lt _) (by omega)), Nat.testBit_or, Nat.testBit_two_pow]
    have hb := bit_room t i
    unfold bit at hb
    rw [h1, hb]
    by_cases h2 : i = t.length
    · subst h2; simp
    · have : ¬ t.length % 64 = i % 64 := by omega
      simp [h2, this]
  · rw [if_neg h1, bit_room, if_neg (by intro h; subst h; exact h1 rfl)]
theorem room_add_lt (t : List Bool) : ((room t).getD (t.length / 64) 0).toNat + 2 ^ (t.length % 64) < 2 ^ 64 := by
  have hs := room_small t
  have : 2 ^ (t.length % 64 + 1) ≤ 2 ^ 64 := Nat.pow_le_pow_right (by omega) (by omega)
  rw [Nat.pow_succ] at this
  omega

/-- word by word -/
def joinW (op : Nat → Nat → Nat) (a b : List UInt64) : List UInt64 := List.zipWith (fun x y => UInt64.ofNat (op x.toNat y.toNat)) a b
theorem getD_zip (f : Bool → Bool → Bool) (hf : f false false = false) (l m : List Bool) (hl : l.length = m.length) (i : Nat) : (List.zipWith f l m).getD i false = f (l.getD i false) (m.getD i false) := by
  simp only [List.getD_eq_getElem?_getD]
  rcases Nat.lt_or_ge i l.length with h | h
  · rw [List.getElem?_eq_getElem (by simp; omega), List.getElem?_eq_getElem h, List.getElem?_eq_getElem (show i < m.length by omega)]
    simp
  · rw [List.getElem?_eq_none (by simp; omega), List.getElem?_eq_none h, List.getElem?_eq_none (show m.length ≤ i by omega)]
    exact hf.symm
theorem join_pack {op : Nat → Nat → Nat} {f : Bool → Bool → Bool} (hf : f false false = false) (hop : ∀ x y, x < 2 ^ 64 → y < 2 ^ 64 → op x y < 2 ^ 64 ∧ ∀ j, j < 64 → (op x y).testBit j = f (x.testBit j) (y.testBit j))
    {l m : List Bool} (hl : l.length = m.length) : joinW op (pack l) (pack m) = pack (List.zipWith f l m) := by
  apply ext (by simp [joinW, pack_length, hl])
  intro i hi
  rw [bit_pack, getD_zip f hf l m hl, ← bit_pack l, ← bit_pack m]
  have hi' : i / 64 < need m.length := by
    simp only [joinW, List.length_zipWith, pack_length, hl, Nat.min_self] at hi
    omega
  rw [bit_get (by simp only [joinW, List.length_zipWith, pack_length, hl, Nat.min_self]; exact hi'), bit_get (by rw [pack_length, hl]; exact hi'), bit_get (by rw [pack_length]; exact hi')]
  simp only [joinW, List.getElem_zipWith]
  obtain ⟨h1, h2⟩ := hop _ _ (u64_lt ((pack l)[i / 64]'(by rw [pack_length, hl]; exact hi'))) (u64_lt ((pack m)[i / 64]'(by rw [pack_length]; exact hi')))
  rw [u64_ofNat h1, h2 _ (by omega)]
theorem op_and (x y : Nat) (hx : x < 2 ^ 64) (_ : y < 2 ^ 64) : x &&& y < 2 ^ 64 ∧ ∀ j, j < 64 → (x &&& y).testBit j = (x.testBit j && y.testBit j) :=
  ⟨Nat.lt_of_le_of_lt Nat.and_le_left hx, fun _ _ => Nat.testBit_and ..⟩
theorem op_or (x y : Nat) (hx : x < 2 ^ 64) (hy : y < 2 ^ 64) : x ||| y < 2 ^ 64 ∧ ∀ j, j < 64 → (x ||| y).testBit j = (x.testBit j || y.testBit j) :=
  ⟨Nat.or_lt_two_pow hx hy, fun _ _ => Nat.testBit_or ..⟩
theorem op_minus (x y : Nat) (hx : x < 2 ^ 64) (hy : y < 2 ^ 64) : x &&& (18446744073709551615 - y) < 2 ^ 64 ∧ ∀ j, j < 64 → (x &&& (18446744073709551615 - y)).testBit j = (x.testBit j && !y.testBit j) :=
  ⟨Nat.lt_of_le_of_lt Nat.and_le_left hx, fun j hj => by
    rw [Nat.testBit_and, show (18446744073709551615 : Nat) - y = 2 ^ 64 - (y + 1) by omega, Nat.testBit_two_pow_sub_succ hy]
    simp [hj]⟩

/-- all rows -/
def ones : UInt64 := UInt64.ofNat 18446744073709551615
theorem ones_bit (j : Nat) (h : j < 64) : ones.toNat.testBit j = true := by
  rw [ones, u64_ofNat (by decide), show (18446744073709551615 : Nat) = 2 ^ 64 - 1 from rfl, Nat.testBit_two_pow_sub_one]
  simpa using h
theorem getD_rep {α : Type} (n i : Nat) (x d : α) : (List.replicate n x).getD i d = if i < n then x else d := by
  simp only [List.getD_eq_getElem?_getD, List.getElem?_replicate]
  split <;> rfl
theorem full_whole {n : Nat} (h : n % 64 = 0) : List.replicate (need n) ones = pack (List.replicate n true) := by
  apply ext (by simp [pack_length])
  intro i hi
  rw [bit_pack, getD_rep]
  unfold bit
  simp only [List.length_replicate] at hi
  unfold need at hi ⊢
  rw [getD_rep, if_pos (by omega), if_pos (by omega)]
  exact ones_bit _ (by omega)
theorem full_part {n : Nat} (h : n % 64 ≠ 0) : (List.replicate (need n) ones).set (need n - 1) (UInt64.ofNat (18446744073709551615 / 2 ^ (64 - n % 64))) = pack (List.replicate n true) := by
  have hk : need n - 1 < (List.replicate (need n) ones).length := by simp; unfold need; omega
  apply ext (by simp [pack_length])
  intro i hi
  rw [bit_set hk, bit_pack, getD_rep]
  simp only [List.length_set, List.length_replicate] at hi
  by_cases h1 : need n - 1 = i / 64
  · rw [if_pos h1, u64_ofNat (Nat.lt_of_le_of_lt (Nat.div_le_self _ _) (by decide))]
    rw [show (18446744073709551615 : Nat) = 2 ^ 64 - 1 from rfl, Nat.testBit_div_two_pow, Nat.testBit_two_pow_sub_one]
    unfold need at h1
    by_cases h2 : i < n
    · rw [if_pos h2]; simp; omega
    · rw [if_neg h2]; simp; omega
  · rw [if_neg h1]
    unfold bit
    unfold need at hi h1 ⊢
    rw [getD_rep, if_pos (by omega), if_pos (by omega)]
    exact ones_bit _ (by omega)
end Go.Proofs.YtggelnlbdpdegaaDoor.Rst
