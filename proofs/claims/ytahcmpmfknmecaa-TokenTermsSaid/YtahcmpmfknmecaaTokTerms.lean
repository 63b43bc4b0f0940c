/- The terms of a line, each once and rising: sorted and compacted, and put in one by one: plain. -/
import Derived.Test.YtahcmpmfknmecaaTok
import Derived.Lib.SlicesCompact
namespace Go.Proofs.Ytahcmpmfknmecaa.Tok
set_option linter.unusedSimpArgs false

theorem less_eq : ∀ (x y : List UInt8), Op.bytesLess x y = decide (x < y)
  | [], [] => by simp [Op.bytesLess]
  | _ :: _, [] => by simp [Op.bytesLess]
  | [], _ :: _ => by simp [Op.bytesLess]
  | a :: x, b :: y => by
    rw [Op.bytesLess, less_eq x y]
    simp only [List.cons_lt_cons_iff]
    by_cases h1 : a < b <;> by_cases h2 : a = b <;> by_cases h3 : x < y <;> simp [h1, h2, h3]

abbrev Rising (l : List (List UInt8)) : Prop := l.Pairwise (· < ·)
theorem rising_ext : ∀ {a b : List (List UInt8)}, Rising a → Rising b → (∀ x, x ∈ a ↔ x ∈ b) → a = b
  | [], [], _, _, _ => rfl
  | [], y :: s, _, _, h => absurd ((h y).2 (by simp)) (by simp)
  | x :: r, [], _, _, h => absurd ((h x).1 (by simp)) (by simp)
  | x :: r, y :: s, ha, hb, h => by
    obtain ⟨h1, h2⟩ := List.pairwise_cons.1 ha
    obtain ⟨h3, h4⟩ := List.pairwise_cons.1 hb
    have e : x = y := by
      rcases List.mem_cons.1 ((h x).1 (by simp)) with e | hx
      · exact e
      · rcases List.mem_cons.1 ((h y).2 (by simp)) with e | hy
        · exact e.symm
        · exact absurd (List.lt_trans (h3 x hx) (h1 y hy)) (List.lt_irrefl _)
    subst e
    congr 1
    refine rising_ext h2 h4 fun z => ⟨fun hz => ?_, fun hz => ?_⟩
    · rcases List.mem_cons.1 ((h z).1 (List.mem_cons_of_mem _ hz)) with e | hz'
      · subst e; exact absurd (h1 _ hz) (List.lt_irrefl _)
      · exact hz'
    · rcases List.mem_cons.1 ((h z).2 (List.mem_cons_of_mem _ hz)) with e | hz'
      · subst e; exact absurd (h3 _ hz) (List.lt_irrefl _)
      · exact hz'

/-! ### compacted -/
theorem bang (zs : List (List UInt8)) {j : Nat} (h : j < zs.length) : zs.toArray[j]! = zs[j] := by simp [h]
theorem mem_compact (zs : List (List UInt8)) (x : List UInt8) : x ∈ Lib.compact zs ↔ x ∈ zs := by
  have hmem : x ∈ Lib.compact zs ↔ ∃ j, (j < zs.length ∧ Lib.keeps zs.toArray j = true) ∧ zs.toArray[j]! = x := by
    simp only [Lib.compact, Lib.compactUpTo, List.mem_map, List.mem_filter, List.mem_range]
  rw [hmem]
  constructor
  · rintro ⟨j, ⟨h1, _⟩, rfl⟩
    rw [bang zs h1]
    exact List.getElem_mem h1
  · intro hx
    obtain ⟨j, hj, rfl⟩ := List.getElem_of_mem hx
    clear hmem hx
    induction j with
    | zero => exact ⟨0, ⟨hj, Lib.keeps_lt_one _ 0 (by omega)⟩, bang zs hj⟩
    | succ j ih =>
      by_cases e : zs[j + 1] = zs[j]
      · rw [e]; exact ih (by omega)
      · exact ⟨j + 1, ⟨hj, Lib.keeps_pos (by rw [bang zs hj, Nat.add_sub_cancel, bang zs (by omega)]; exact e)⟩, bang zs hj⟩
theorem rising_compact (zs : List (List UInt8)) (h : zs.Pairwise (· ≤ ·)) : Rising (Lib.compact zs) := by
  unfold Rising Lib.compact Lib.compactUpTo
  rw [List.pairwise_map]
  refine (List.Pairwise.filter _ (List.pairwise_lt_range (n := zs.length))).imp_of_mem ?_
  intro i j hi hj hij
  have hj1 : j < zs.length := List.mem_range.1 (List.mem_filter.1 hj).1
  have hk := (List.mem_filter.1 hj).2
  rw [bang zs (by omega), bang zs hj1]
  have hle : ∀ a b, (ha : a ≤ b) → (hb : b < zs.length) → zs[a]'(by omega) ≤ zs[b] := fun a b ha hb => by
    rcases Nat.lt_or_eq_of_le ha with h' | h'
    · exact List.pairwise_iff_getElem.1 h a b (by omega) hb h'
    · subst h'; exact List.le_refl _
  have hne : zs[j] ≠ zs[j - 1]'(by omega) := by
    intro e
    rw [Lib.keeps_neg (by omega) (by rw [bang zs hj1, bang zs (by omega)]; exact e)] at hk
    cases hk
  have h1 := hle i (j - 1) (by omega) (by omega)
  have h2 := hle (j - 1) j (by omega) hj1
  refine List.not_le.1 fun hge => hne (List.le_antisymm ?_ h2)
  exact List.le_trans hge h1

/-- the terms: sorted, and each once -/
def terms (l : List UInt8) : List (List UInt8) := Lib.compact ((found l).mergeSort fun x y => decide (x ≤ y))
theorem sorted_merge (zs : List (List UInt8)) : (zs.mergeSort fun x y => decide (x ≤ y)).Pairwise (· ≤ ·) := by
  have := List.pairwise_mergeSort (le := fun x y : List UInt8 => decide (x ≤ y)) (fun a b c h1 h2 => by simp only [decide_eq_true_eq] at *; exact List.le_trans h1 h2) (fun a b => by simpa using List.le_total a b) zs
  exact this.imp fun h => by simpa using h
theorem rising_terms (l : List UInt8) : Rising (terms l) := rising_compact _ (sorted_merge _)
theorem mem_terms (l x : List UInt8) : x ∈ terms l ↔ x ∈ found l := by
  unfold terms
  rw [mem_compact, List.mem_mergeSort]

/-! ### put in, one by one -/
def withGo (s : List UInt8) : Bool → List (List UInt8) → List (List UInt8)
  | put, [] => if put then [] else [s]
  | put, x :: r => (if !put && !Op.bytesLess x s then [s] else []) ++ ((if x == s then [] else [x]) ++ withGo s (put || !Op.bytesLess x s) r)
theorem withGo_true {s : List UInt8} : ∀ {l : List (List UInt8)}, (∀ x ∈ l, s < x) → withGo s true l = l
  | [], _ => rfl
  | x :: r, h => by
    have hx := h x (by simp)
    have hne : (x == s) = false := by
      rw [beq_eq_false_iff_ne]
      rintro rfl
      exact List.lt_irrefl _ hx
    unfold withGo
    rw [Bool.true_or, withGo_true fun y hy => h y (by simp [hy]), hne]
    simp
theorem with_spec {s : List UInt8} : ∀ {l : List (List UInt8)}, Rising l → Rising (withGo s false l) ∧ ∀ x, x ∈ withGo s false l ↔ x = s ∨ x ∈ l
  | [], _ => ⟨by simp [withGo], fun x => by simp [withGo]⟩
  | y :: r, h => by
    obtain ⟨h1, h2⟩ := List.pairwise_cons.1 h
    rcases hl : Op.bytesLess y s with _ | _
    · rw [less_eq, decide_eq_false_iff_not] at hl
      have hle := List.not_lt.1 hl
      have hr : ∀ x ∈ r, s < x := fun x hx => List.lt_of_le_of_lt hle (h1 x hx)
      have e : withGo s false (y :: r) = s :: ((if y == s then [] else [y]) ++ r) := by
        unfold withGo
        rw [less_eq, decide_eq_false hl]
        simp only [Bool.not_false, Bool.and_self, Bool.or_true, if_true, List.cons_append, List.nil_append]
        rw [withGo_true hr]
      rw [e]
      by_cases hy : y = s
      · subst hy
        simp only [beq_self_eq_true, if_true, List.nil_append]
        exact ⟨h, fun x => by simp⟩
      · have : (y == s) = false := by simpa using hy
        rw [this]
        have hsy : s < y := by
          refine List.not_le.1 fun hge => hy (List.le_antisymm hge hle)
        refine ⟨List.pairwise_cons.2 ⟨fun x hx => ?_, h⟩, fun x => by simp⟩
        rcases List.mem_cons.1 hx with rfl | hx
        · exact hsy
        · exact hr x hx
    · rw [less_eq, decide_eq_true_eq] at hl
      have hy : (y == s) = false := by
        rw [beq_eq_false_iff_ne]
        rintro rfl
        exact List.lt_irrefl _ hl
      have e : withGo s false (y :: r) = y :: withGo s false r := by
        conv => lhs; unfold withGo
        rw [less_eq, decide_eq_true hl, hy]
        simp
      obtain ⟨i1, i2⟩ := with_spec (s := s) h2
      rw [e]
      refine ⟨List.pairwise_cons.2 ⟨fun x hx => ?_, i1⟩, fun x => ?_⟩
      · rcases (i2 x).1 hx with rfl | hx
        · exact hl
        · exact h1 x hx
      · rw [List.mem_cons, List.mem_cons, i2]
        constructor
        · rintro (h | h | h)
          · exact .inr (.inl h)
          · exact .inl h
          · exact .inr (.inr h)
        · rintro (h | h | h)
          · exact .inr (.inl h)
          · exact .inl h
          · exact .inr (.inr h)
def withs (acc ts : List (List UInt8)) : List (List UInt8) := ts.foldl (fun l s => withGo s false l) acc
theorem withs_spec : ∀ (ts : List (List UInt8)) {acc : List (List UInt8)}, Rising acc → Rising (withs acc ts) ∧ ∀ x, x ∈ withs acc ts ↔ x ∈ acc ∨ x ∈ ts
  | [], acc, h => ⟨h, fun x => by simp [withs]⟩
  | s :: r, acc, h => by
    obtain ⟨h1, h2⟩ := with_spec (s := s) h
    obtain ⟨h3, h4⟩ := withs_spec r h1
    refine ⟨h3, fun x => ?_⟩
    show x ∈ withs (withGo s false acc) r ↔ _
    rw [h4, h2, List.mem_cons]
    constructor
    · rintro ((h | h) | h)
      · exact .inr (.inl h)
      · exact .inl h
      · exact .inr (.inr h)
    · rintro (h | h | h)
      · exact .inl (.inr h)
      · exact .inl (.inl h)
      · exact .inr h
theorem withs_terms (l : List UInt8) : withs [] (found l) = terms l := by
  obtain ⟨h1, h2⟩ := withs_spec (found l) (acc := []) List.Pairwise.nil
  exact rising_ext h1 (rising_terms l) fun x => by rw [h2, mem_terms]; simp
theorem withGo_len (s : List UInt8) : ∀ (b : Bool) (l : List (List UInt8)), (withGo s b l).length ≤ l.length + 1
  | true, [] => by simp [withGo]
  | false, [] => by simp [withGo]
  | true, x :: r => by
    have := withGo_len' s r
    unfold withGo
    rw [Bool.true_or]
    simp only [Bool.not_true, Bool.false_and, Bool.false_eq_true, if_false, List.nil_append, List.length_append, List.length_cons]
    split <;> simp <;> omega
  | false, x :: r => by
    have h1 := withGo_len s false r
    have h2 := withGo_len' s r
    unfold withGo
    rcases Op.bytesLess x s with _ | _
    · simp only [Bool.not_false, Bool.and_self, Bool.or_true, if_true, List.length_append, List.length_cons, List.length_nil]
      split <;> simp <;> omega
    · simp only [Bool.not_true, Bool.and_false, Bool.or_false, Bool.false_eq_true, if_false, List.nil_append, List.length_append, List.length_cons]
      split <;> simp <;> omega
where
  withGo_len' (s : List UInt8) : ∀ (l : List (List UInt8)), (withGo s true l).length ≤ l.length
    | [] => by simp [withGo]
    | x :: r => by
      have := withGo_len' s r
      unfold withGo
      rw [Bool.true_or]
      simp only [Bool.not_true, Bool.false_and, Bool.false_eq_true, if_false, List.nil_append, List.length_append, List.length_cons]
      split <;> simp <;> omega

/-! ### the texts that are there, step by step -/
def there (ts : List (List UInt8)) : List (List UInt8) := ts.filter fun s => !s.isEmpty
theorem found_there (l : List UInt8) : found l = there (cuts l) := rfl
theorem there_none {ts : List (List UInt8)} {k : Nat} (h : k < ts.length) (e : ts[k] = []) : there (ts.take (k + 1)) = there (ts.take k) := by
  unfold there
  rw [List.take_succ_eq_append_getElem h, List.filter_append, e]
  simp
theorem there_some {ts : List (List UInt8)} {k : Nat} (h : k < ts.length) (e : ts[k] ≠ []) : there (ts.take (k + 1)) = there (ts.take k) ++ [ts[k]] := by
  unfold there
  rw [List.take_succ_eq_append_getElem h, List.filter_append]
  congr 1
  simp [e]
theorem there_len (ts : List (List UInt8)) : (there ts).length ≤ ts.length := List.length_filter_le _ _
theorem withs_snoc (acc ts : List (List UInt8)) (s : List UInt8) : withs acc (ts ++ [s]) = withGo s false (withs acc ts) := by simp [withs]
theorem terms_len (l : List UInt8) : (terms l).length ≤ l.length + 1 := by
  have h1 : (terms l).length ≤ (found l).length := by
    unfold terms Lib.compact Lib.compactUpTo
    rw [List.length_map]
    refine Nat.le_trans (List.length_filter_le _ _) ?_
    rw [List.length_range, List.length_mergeSort]
    exact Nat.le_refl _
  exact Nat.le_trans h1 (Nat.le_trans (there_len _) (cuts_len l))
end Go.Proofs.Ytahcmpmfknmecaa.Tok
