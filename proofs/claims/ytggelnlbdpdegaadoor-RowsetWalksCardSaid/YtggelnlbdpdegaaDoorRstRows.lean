/- The rows of a set in their order, word by word; the granules of rows that rise: plain arithmetic, no program. -/
import Derived.Test.YtggelnlbdpdegaaDoorRst
import Derived.Lib.TrailingZeros
namespace Go.Proofs.YtggelnlbdpdegaaDoor.Rst

/-- the places of the bits of x that are set, from o on -/
def lows : Nat → Nat → Nat → List Nat
  | 0, _, _ => []
  | f + 1, x, o => if x % 2 = 1 then o :: lows f (x / 2) (o + 1) else lows f (x / 2) (o + 1)
theorem lows_zero : ∀ f o, lows f 0 o = []
  | 0, _ => rfl
  | f + 1, o => by simp [lows, lows_zero f]
theorem low_off (x : Nat) : x &&& (x - 1) = if x % 2 = 1 then x - 1 else 2 * ((x / 2) &&& (x / 2 - 1)) := by
  have hd : (x &&& (x - 1)) / 2 ^ 1 = x / 2 ^ 1 &&& (x - 1) / 2 ^ 1 := Nat.and_div_two_pow
  have hr : (x &&& (x - 1)) % 2 ^ 1 = (x % 2 ^ 1) &&& ((x - 1) % 2 ^ 1) := Nat.and_mod_two_pow
  simp only [Nat.pow_one] at hd hr
  split
  · rename_i h1
    have e1 : (x - 1) / 2 = x / 2 := by omega
    have e2 : (x - 1) % 2 = 0 := by omega
    rw [e1, Nat.and_self] at hd
    rw [e2, Nat.and_zero] at hr
    omega
  · rename_i h1
    have e1 : (x - 1) / 2 = x / 2 - 1 := by omega
    have e2 : x % 2 = 0 := by omega
    rw [e1] at hd
    rw [e2, Nat.zero_and] at hr
    omega
theorem lows_step : ∀ (f x o : Nat), x ≠ 0 → x < 2 ^ f → lows f x o = (o + Lib.ctzFrom f x) :: lows f (x &&& (x - 1)) o
  | 0, x, o, h0, h => by simp at h; omega
  | f + 1, x, o, h0, h => by
    rw [low_off x]
    simp only [lows, Lib.ctzFrom]
    by_cases h1 : x % 2 = 1
    · have e1 : (x - 1) % 2 ≠ 1 := by omega
      have e2 : (x - 1) / 2 = x / 2 := by omega
      simp only [if_pos h1, if_neg e1, e2, Nat.add_zero]
    · have e1 : ¬ (2 * ((x / 2) &&& (x / 2 - 1))) % 2 = 1 := by omega
      have e2 : (2 * ((x / 2) &&& (x / 2 - 1))) / 2 = (x / 2) &&& (x / 2 - 1) := by omega
      simp only [if_neg h1, if_neg e1, e2]
      rw [lows_step f (x / 2) (o + 1) (by omega) (by rw [Nat.pow_succ] at h; omega)]
      congr 1
      omega
theorem low_less {x : Nat} (h : x ≠ 0) : x &&& (x - 1) < x := Nat.lt_of_le_of_lt Nat.and_le_right (by omega)
theorem ctz_lt {x : Nat} (h0 : x ≠ 0) (h : x < 2 ^ 64) : Lib.ctz 64 x = Lib.ctzFrom 64 x ∧ Lib.ctz 64 x < 64 := by
  obtain ⟨m, _, h2⟩ := Lib.ctzFrom_spec 64 x (by omega) h
  unfold Lib.ctz
  rw [if_neg h0]
  exact ⟨rfl, h2⟩
theorem lows_filter : ∀ (f x o : Nat), lows f x o = (List.range' o f).filter (fun i => x.testBit (i - o))
  | 0, _, _ => rfl
  | f + 1, x, o => by
    rw [List.range'_succ, List.filter_cons, lows, lows_filter f (x / 2) (o + 1)]
    have e : (List.range' (o + 1) f).filter (fun i => x.testBit (i - o)) = (List.range' (o + 1) f).filter (fun i => (x / 2).testBit (i - (o + 1))) := by
      apply List.filter_congr
      intro i hi
      rw [List.mem_range'] at hi
      obtain ⟨j, _, rfl⟩ := hi
      rw [show o + 1 + 1 * j - o = j + 1 by omega, show o + 1 + 1 * j - (o + 1) = j by omega, Nat.testBit_succ]
    rw [e]
    simp only [Nat.sub_self, Nat.testBit_zero, decide_eq_true_eq]

/-- the rows of the first n -/
def rows (ws : List UInt64) (n : Nat) : List Nat := (List.range n).filter (bit ws)
theorem rows_word {ws : List UInt64} {k : Nat} (h : k < ws.length) : rows ws (64 * (k + 1)) = rows ws (64 * k) ++ lows 64 ws[k].toNat (64 * k) := by
  unfold rows
  rw [show 64 * (k + 1) = 64 * k + 64 by omega, List.range_eq_range', List.range_eq_range', ← List.range'_append_1, List.filter_append, lows_filter, Nat.zero_add]
  congr 1
  apply List.filter_congr
  intro i hi
  rw [List.mem_range'] at hi
  obtain ⟨j, hj, rfl⟩ := hi
  rw [bit_get (by omega)]
  have e1 : (64 * k + 1 * j) / 64 = k := by omega
  have e2 : (64 * k + 1 * j) % 64 = 64 * k + 1 * j - 64 * k := by omega
  simp only [e1, e2]
theorem rows_more {ws : List UInt64} {n m : Nat} (hm : n ≤ m) (h : ∀ i, n ≤ i → bit ws i = false) : rows ws m = rows ws n := by
  obtain ⟨d, rfl⟩ : ∃ d, m = n + d := ⟨m - n, by omega⟩
  unfold rows
  rw [List.range_add, List.filter_append]
  have : List.filter (bit ws) ((List.range d).map (n + ·)) = [] := by
    apply List.filter_eq_nil_iff.2
    intro i hi
    obtain ⟨j, _, rfl⟩ := List.mem_map.1 hi
    rw [h _ (by omega)]
    simp
  rw [this, List.append_nil]
theorem rows_pack (l : List Bool) : rows (pack l) (64 * (pack l).length) = rows (pack l) l.length := by
  apply rows_more
  · rw [pack_length]; unfold need; omega
  · intro i hi
    rw [bit_pack, List.getD_eq_getElem?_getD, List.getElem?_eq_none hi]
    rfl
theorem rows_snoc (ws : List UInt64) (n : Nat) : rows ws (n + 1) = if bit ws n then rows ws n ++ [n] else rows ws n := by
  unfold rows
  rw [List.range_succ, List.filter_append]
  cases h : bit ws n <;> simp [h]
theorem rows_mem {ws : List UInt64} {n i : Nat} : i ∈ rows ws n ↔ i < n ∧ bit ws i = true := by simp [rows]
theorem rows_lt {ws : List UInt64} {n i : Nat} (h : i ∈ rows ws n) : i < n := (rows_mem.1 h).1
theorem rows_rise (ws : List UInt64) (n : Nat) : (rows ws n).Pairwise (· < ·) := List.Pairwise.filter _ List.pairwise_lt_range
theorem rows_length (ws : List UInt64) (n : Nat) : (rows ws n).length = (List.range n).countP (bit ws) := by simp [rows, List.countP_eq_length_filter]
theorem rows_length_le (ws : List UInt64) (n : Nat) : (rows ws n).length ≤ n := by
  have := List.length_filter_le (bit ws) (List.range n)
  rw [List.length_range] at this
  exact this

/-- the granules: each row's behind the others', but where it is the last one already -/
def addG (out : List Nat) (r : Nat) : List Nat := if out.getLast? = some (r / 16) then out else out ++ [r / 16]
def gran (l : List Nat) : List Nat := l.foldl addG []
theorem gran_snoc (l : List Nat) (r : Nat) : gran (l ++ [r]) = addG (gran l) r := by simp [gran]
theorem snoc_ind {α : Type} {P : List α → Prop} (h0 : P []) (h1 : ∀ l x, P l → P (l ++ [x])) (l : List α) : P l := by
  have : ∀ m : List α, P m.reverse := by
    intro m
    induction m with
    | nil => exact h0
    | cons x m ih => rw [List.reverse_cons]; exact h1 _ _ ih
  simpa using this l.reverse
theorem mem_last {α : Type} {l : List α} {x : α} (h : l.getLast? = some x) : x ∈ l := List.mem_of_getLast? h
theorem gran_mem (l : List Nat) : ∀ g, g ∈ gran l ↔ ∃ r ∈ l, r / 16 = g := by
  refine snoc_ind (P := fun l => ∀ g, g ∈ gran l ↔ ∃ r ∈ l, r / 16 = g) ?_ ?_ l
  · intro g; simp [gran]
  · intro l x ih g
    rw [gran_snoc]
    unfold addG
    by_cases h : (gran l).getLast? = some (x / 16)
    · rw [if_pos h, ih]
      constructor
      · rintro ⟨r, hr, rfl⟩; exact ⟨r, by simp [hr], rfl⟩
      · rintro ⟨r, hr, rfl⟩
        rcases List.mem_append.1 hr with hr | hr
        · exact ⟨r, hr, rfl⟩
        · obtain rfl : r = x := by simpa using hr
          exact (ih _).1 (mem_last h)
    · rw [if_neg h, List.mem_append, ih]
      constructor
      · rintro (⟨r, hr, rfl⟩ | hg)
        · exact ⟨r, by simp [hr], rfl⟩
        · obtain rfl : g = x / 16 := by simpa using hg
          exact ⟨x, by simp, rfl⟩
      · rintro ⟨r, hr, rfl⟩
        rcases List.mem_append.1 hr with hr | hr
        · exact .inl ⟨r, hr, rfl⟩
        · obtain rfl : r = x := by simpa using hr
          right; simp
theorem gran_rise (l : List Nat) : l.Pairwise (· < ·) → (gran l).Pairwise (· < ·) := by
  refine snoc_ind (P := fun l => l.Pairwise (· < ·) → (gran l).Pairwise (· < ·)) ?_ ?_ l
  · intro _; simp [gran]
  · intro l x ih h
    obtain ⟨h1, _, h3⟩ := List.pairwise_append.1 h
    have ih := ih h1
    rw [gran_snoc]
    unfold addG
    by_cases hl : (gran l).getLast? = some (x / 16)
    · rw [if_pos hl]; exact ih
    · rw [if_neg hl]
      refine List.pairwise_append.2 ⟨ih, by simp, ?_⟩
      intro g hg b hb
      obtain rfl : b = x / 16 := by simpa using hb
      obtain ⟨r, hr, rfl⟩ := (gran_mem l g).1 hg
      have hrx : r < x := h3 r hr x (by simp)
      rcases Nat.lt_or_ge (r / 16) (x / 16) with h4 | h4
      · exact h4
      · exfalso
        -- r / 16 = x / 16 is in the list, and none is greater: it is the last
        apply hl
        have hne : gran l ≠ [] := by intro e; rw [e] at hg; cases hg
        rw [List.getLast?_eq_some_getLast hne]
        obtain ⟨r', hr', e'⟩ := (gran_mem l _).1 (List.getLast_mem hne)
        have h5 : r' < x := h3 r' hr' x (by simp)
        have h6 : r / 16 ≤ (gran l).getLast hne := by
          obtain ⟨a, b, hab⟩ := List.append_of_mem hg
          have hp := ih
          rw [hab] at hp
          have hq := (List.pairwise_append.1 hp).2.1
          simp only [hab]
          rcases Classical.em (b = []) with hb' | hb'
          · subst hb'; simp
          · rw [List.getLast_append_of_ne_nil (by intro h; simp at h) (by simp), List.getLast_cons hb']
            exact Nat.le_of_lt ((List.pairwise_cons.1 hq).1 _ (List.getLast_mem hb'))
        congr 1
        omega
theorem rise_ext : ∀ {a b : List Nat}, a.Pairwise (· < ·) → b.Pairwise (· < ·) → (∀ x, x ∈ a ↔ x ∈ b) → a = b
  | [], [], _, _, _ => rfl
  | [], y :: b, _, _, h => by have := (h y).2 (by simp); cases this
  | x :: a, [], _, _, h => by have := (h x).1 (by simp); cases this
  | x :: a, y :: b, ha, hb, h => by
    obtain ⟨ha1, ha2⟩ := List.pairwise_cons.1 ha
    obtain ⟨hb1, hb2⟩ := List.pairwise_cons.1 hb
    have hxy : x = y := by
      rcases List.mem_cons.1 ((h x).1 (by simp)) with e | e
      · exact e
      · rcases List.mem_cons.1 ((h y).2 (by simp)) with e' | e'
        · exact e'.symm
        · have := ha1 y e'; have := hb1 x e; omega
    subst hxy
    congr 1
    apply rise_ext ha2 hb2
    intro z
    constructor
    · intro hz
      rcases List.mem_cons.1 ((h z).1 (by simp [hz])) with e | e
      · have := ha1 z hz; omega
      · exact e
    · intro hz
      rcases List.mem_cons.1 ((h z).2 (by simp [hz])) with e | e
      · have := hb1 z hz; omega
      · exact e
theorem gran_length (l : List Nat) : (gran l).length ≤ l.length := by
  refine snoc_ind (P := fun l => (gran l).length ≤ l.length) ?_ ?_ l
  · simp [gran]
  · intro l x ih
    rw [gran_snoc]
    unfold addG
    split <;> simp <;> omega

/-- the rows of granules -/
def withinL (n : Nat) (gs : List Int) : List Bool := (List.range n).map (fun i => decide (((i / 16 : Nat) : Int) ∈ gs))
theorem withinL_length (n : Nat) (gs : List Int) : (withinL n gs).length = n := by simp [withinL]
theorem withinL_getD (n : Nat) (gs : List Int) (i : Nat) : (withinL n gs).getD i false = (decide (i < n) && decide (((i / 16 : Nat) : Int) ∈ gs)) := by
  rw [List.getD_eq_getElem?_getD]
  rcases Nat.lt_or_ge i n with h | h
  · rw [List.getElem?_eq_getElem (by rw [withinL_length]; exact h)]
    simp [withinL, h]
  · rw [List.getElem?_eq_none (by rw [withinL_length]; exact h)]
    simp; omega
/-- a set's granules, as numbers -/
def granI (ws : List UInt64) (n : Nat) : List Int := (gran (rows ws n)).map fun (g : Nat) => (g : Int)
theorem granI_mem {ws : List UInt64} {n g : Nat} : (g : Int) ∈ granI ws n ↔ ∃ i, i < n ∧ bit ws i = true ∧ i / 16 = g := by
  unfold granI
  constructor
  · intro h
    obtain ⟨g', hg', e⟩ := List.mem_map.1 h
    obtain rfl : g' = g := by omega
    obtain ⟨r, hr, e⟩ := (gran_mem _ _).1 hg'
    exact ⟨r, (rows_mem.1 hr).1, (rows_mem.1 hr).2, e⟩
  · rintro ⟨i, h1, h2, rfl⟩
    exact List.mem_map.2 ⟨_, (gran_mem _ _).2 ⟨i, rows_mem.2 ⟨h1, h2⟩, rfl⟩, rfl⟩
/-- what covers a set: the set and others of its granules alone -/
theorem cover_and (l : List Bool) : List.zipWith (fun a b => a && b) l (withinL l.length (granI (pack l) l.length)) = l := by
  apply List.ext_getElem (by simp [withinL_length])
  intro i h1 h2
  rw [List.getElem_zipWith]
  have hw := withinL_getD l.length (granI (pack l) l.length) i
  rw [List.getD_eq_getElem?_getD, List.getElem?_eq_getElem (by rw [withinL_length]; exact h2), Option.getD_some] at hw
  rw [hw]
  rcases hb : l[i] with _ | _
  · rfl
  · simp only [Bool.true_and, Bool.and_eq_true, decide_eq_true_eq]
    refine ⟨h2, granI_mem.2 ⟨i, h2, ?_, rfl⟩⟩
    rw [bit_pack, List.getD_eq_getElem?_getD, List.getElem?_eq_getElem h2, hb]
    rfl
theorem cover_gran (l : List Bool) : granI (pack (withinL l.length (granI (pack l) l.length))) l.length = granI (pack l) l.length := by
  unfold granI
  congr 1
  apply rise_ext (gran_rise _ (rows_rise _ _)) (gran_rise _ (rows_rise _ _))
  intro g
  have e : ∀ i, bit (pack (withinL l.length (granI (pack l) l.length))) i = (decide (i < l.length) && decide (((i / 16 : Nat) : Int) ∈ granI (pack l) l.length)) := fun i => by rw [bit_pack, withinL_getD]
  rw [gran_mem, gran_mem]
  constructor
  · rintro ⟨r, hr, rfl⟩
    obtain ⟨h1, h2⟩ := rows_mem.1 hr
    unfold granI at e
    rw [e, Bool.and_eq_true, decide_eq_true_iff, decide_eq_true_iff] at h2
    obtain ⟨i, a, b, c⟩ := granI_mem.1 h2.2
    exact ⟨i, rows_mem.2 ⟨a, b⟩, c⟩
  · rintro ⟨r, hr, rfl⟩
    obtain ⟨h1, h2⟩ := rows_mem.1 hr
    refine ⟨r, rows_mem.2 ⟨h1, ?_⟩, rfl⟩
    unfold granI at e
    rw [e, Bool.and_eq_true, decide_eq_true_iff, decide_eq_true_iff]
    exact ⟨h1, granI_mem.2 ⟨r, h1, h2, rfl⟩⟩
end Go.Proofs.YtggelnlbdpdegaaDoor.Rst
