/- The document's way to the table: the best of what is left, again and again: plain. -/
import Derived.Test.YtmcioglidgbibaaPieceRow
import Derived.Test.YtmcioglidgbibaaSymOrd
namespace Go.Proofs.Ytmcioglidgbibaa.Sym

/-- does a piece beat another? -/
def bt (p q : List UInt8 × Nat) : Prop := wort q < wort p ∨ (wort p = wort q ∧ p.1 < q.1)
theorem bt_trans {a b c : List UInt8 × Nat} (h1 : bt a b) (h2 : bt b c) : bt a c := by
  rcases h1 with h1 | ⟨e1, l1⟩ <;> rcases h2 with h2 | ⟨e2, l2⟩
  · exact .inl (by omega)
  · exact .inl (by omega)
  · exact .inl (by omega)
  · exact .inr ⟨by omega, List.lt_trans l1 l2⟩
theorem bt_irrefl (a : List UInt8 × Nat) : ¬ bt a a := by
  rintro (h | ⟨_, h⟩)
  · omega
  · exact absurd h (List.lt_irrefl _)

/-- what is left of the pieces when those of T are taken -/
def Left (l : List (List UInt8 × Nat)) (P T : List (List UInt8)) : Prop := (l.map (·.1)).Nodup ∧ (∀ s, s ∈ l.map (·.1) ↔ s ∈ P) ∧ ∀ p ∈ l, p.2 = if p.1 ∈ T then 0 else P.count p.1
/-- the best of the first r -/
def Best (l : List (List UInt8 × Nat)) (r : Nat) (z : Int) : Prop :=
  (z = -1 ∧ ∀ i, (h : i < l.length) → i < r → l[i].2 < 2) ∨
  ∃ b, ∃ hb : b < l.length, z = (b : Int) ∧ b < r ∧ 2 ≤ l[b].2 ∧ ∀ i, (h : i < l.length) → i < r → 2 ≤ l[i].2 → ¬ bt l[i] l[b]

theorem best_zero (l : List (List UInt8 × Nat)) : Best l 0 (-1) := .inl ⟨rfl, fun _ _ h => absurd h (Nat.not_lt_zero _)⟩
/-- one that comes less than twice is passed by -/
theorem best_few {l : List (List UInt8 × Nat)} {r : Nat} {z : Int} (hr : r < l.length) (h : Best l r z) (h2 : l[r].2 < 2) : Best l (r + 1) z := by
  rcases h with ⟨rfl, h⟩ | ⟨b, hb, rfl, hbr, hb2, h⟩
  · refine .inl ⟨rfl, fun i hi hir => ?_⟩
    by_cases e : i = r
    · subst e; exact h2
    · exact h i hi (by omega)
  · refine .inr ⟨b, hb, rfl, by omega, hb2, fun i hi hir hi2 => ?_⟩
    by_cases e : i = r
    · subst e; omega
    · exact h i hi (by omega) hi2
/-- the first -/
theorem best_first {l : List (List UInt8 × Nat)} {r : Nat} (hr : r < l.length) (h : Best l r (-1)) (h2 : 2 ≤ l[r].2) : Best l (r + 1) (r : Int) := by
  rcases h with ⟨_, h⟩ | ⟨b, hb, e, _⟩
  · refine .inr ⟨r, hr, rfl, by omega, h2, fun i hi hir hi2 => ?_⟩
    by_cases e : i = r
    · subst e; exact bt_irrefl _
    · have := h i hi (by omega); omega
  · omega
/-- one that beats the best -/
theorem best_more {l : List (List UInt8 × Nat)} {r b : Nat} (hr : r < l.length) (hb : b < l.length) (h : Best l r (b : Int)) (h2 : 2 ≤ l[r].2) (hw : bt l[r] l[b]) : Best l (r + 1) (r : Int) := by
  rcases h with ⟨e, _⟩ | ⟨b', hb', e, hbr, hb2, h⟩
  · omega
  · obtain rfl : b = b' := by omega
    refine .inr ⟨r, hr, rfl, by omega, h2, fun i hi hir hi2 hbt => ?_⟩
    by_cases e : i = r
    · subst e; exact bt_irrefl _ hbt
    · exact h i hi (by omega) hi2 (bt_trans hbt hw)
/-- one that does not -/
theorem best_same {l : List (List UInt8 × Nat)} {r b : Nat} (hr : r < l.length) (hb : b < l.length) (h : Best l r (b : Int)) (hw : ¬ bt l[r] l[b]) : Best l (r + 1) (b : Int) := by
  rcases h with ⟨e, _⟩ | ⟨b', hb', e, hbr, hb2, h⟩
  · omega
  · obtain rfl : b = b' := by omega
    refine .inr ⟨b, hb, rfl, by omega, hb2, fun i hi hir hi2 => ?_⟩
    by_cases e : i = r
    · subst e; exact hw
    · exact h i hi (by omega) hi2
theorem best_is {l : List (List UInt8 × Nat)} {r : Nat} {z : Int} (h : Best l r z) : z = -1 ∨ ∃ b, b < l.length ∧ z = (b : Int) ∧ b < r := by
  rcases h with ⟨h, _⟩ | ⟨b, hb, e, hbr, _⟩
  · exact .inl h
  · exact .inr ⟨b, hb, e, hbr⟩

theorem left_times {l : List (List UInt8 × Nat)} {P T : List (List UInt8)} (h : Left l P T) {p : List UInt8 × Nat} (hp : p ∈ l) : p.2 ≤ P.length := by
  rw [h.2.2 p hp]
  split
  · exact Nat.zero_le _
  · exact List.count_le_length
theorem left_two {l : List (List UInt8 × Nat)} {P T : List (List UInt8)} (h : Left l P T) {p : List UInt8 × Nat} (hp : p ∈ l) (h2 : 2 ≤ p.2) : p.1 ∉ T ∧ p.2 = P.count p.1 := by
  have := h.2.2 p hp
  by_cases hm : p.1 ∈ T
  · rw [if_pos hm] at this; omega
  · rw [if_neg hm] at this; exact ⟨hm, this⟩
theorem left_at {l : List (List UInt8 × Nat)} {P T : List (List UInt8)} (h : Left l P T) {s : List UInt8} (h2 : 2 ≤ P.count s) (hs : s ∉ T) : ∃ i, ∃ hi : i < l.length, l[i] = (s, P.count s) := by
  obtain ⟨p, hp, rfl⟩ := List.mem_map.1 ((h.2.1 s).2 (count_mem h2))
  obtain ⟨i, hi, rfl⟩ := List.mem_iff_getElem.1 hp
  refine ⟨i, hi, ?_⟩
  have := h.2.2 _ hp
  rw [if_neg hs] at this
  rw [← this]
/-- none is left -/
theorem best_none {l : List (List UInt8 × Nat)} {P : List (List UInt8)} {k : Nat} (h : Left l P ((srt P).take k)) (hb : Best l l.length (-1)) : (srt P).length ≤ k := by
  rcases Nat.lt_or_ge k (srt P).length with hlt | hge
  · exfalso
    have hm : (srt P)[k] ∈ srt P := List.getElem_mem hlt
    have h2 := mem_srt.1 hm
    have hn : (srt P)[k] ∉ (srt P).take k := by
      intro hc
      obtain ⟨i, hi, e⟩ := List.mem_iff_getElem.1 hc
      rw [List.getElem_take] at e
      rw [List.length_take] at hi
      have := (List.getElem_inj (h₀ := by omega) (h₁ := hlt) (nodup_srt P)).1 e
      omega
    obtain ⟨i, hi, e⟩ := left_at h h2 hn
    rcases hb with ⟨_, hb⟩ | ⟨b, _, e', _⟩
    · have := hb i hi hi
      rw [e] at this
      simp only at this
      omega
    · omega
  · exact hge
/-- the best is the next in order -/
theorem best_next {l : List (List UInt8 × Nat)} {P : List (List UInt8)} {k b : Nat} (h : Left l P ((srt P).take k)) (hbl : b < l.length) (hb : Best l l.length (b : Int)) : (srt P).take (k + 1) = (srt P).take k ++ [l[b].1] ∧ 2 ≤ l[b].2 := by
  rcases hb with ⟨e, _⟩ | ⟨b', hb', e, _, hb2, hb⟩
  · omega
  · obtain rfl : b = b' := by omega
    refine ⟨?_, hb2⟩
    obtain ⟨hn, hc⟩ := left_two h (List.getElem_mem hbl) hb2
    have hm : l[b].1 ∈ srt P := mem_srt.2 (by omega)
    obtain ⟨j, hj, ej⟩ := List.mem_iff_getElem.1 hm
    have hkj : k ≤ j := by
      rcases Nat.lt_or_ge j k with hlt | hge
      · exact absurd (List.mem_iff_getElem.2 ⟨j, by rw [List.length_take]; omega, by rw [List.getElem_take]; exact ej⟩) hn
      · exact hge
    have hk : k < (srt P).length := by omega
    rw [List.take_succ_eq_append_getElem hk]
    suffices (srt P)[k] = l[b].1 by rw [this]
    rcases Nat.eq_or_lt_of_le hkj with rfl | hlt
    · exact ej
    · have h2 := mem_srt.1 (List.getElem_mem hk)
      have hn2 : (srt P)[k] ∉ (srt P).take k := by
        intro hc
        obtain ⟨i, hi, e⟩ := List.mem_iff_getElem.1 hc
        rw [List.getElem_take] at e
        rw [List.length_take] at hi
        have := (List.getElem_inj (h₀ := by omega) (h₁ := hk) (nodup_srt P)).1 e
        omega
      obtain ⟨i, hi, e⟩ := left_at h h2 hn2
      have h3 := hb i hi hi (by rw [e]; exact h2)
      have h4 := List.pairwise_iff_getElem.1 (srt_pairwise P) k j hk hj hlt
      rw [ej] at h4
      unfold leP at h4
      rw [Bool.not_eq_true'] at h4
      refine ahead_same (P := P) ?_ h4
      rw [← Bool.not_eq_true, ahead_iff]
      intro hc2
      apply h3
      rw [e]
      unfold bt wort
      simp only
      rw [hc]
      unfold val at hc2
      rcases hc2 with hc2 | ⟨hc2, hc3⟩
      · exact .inl hc2
      · exact .inr ⟨hc2.symm, hc3⟩
/-- the best is taken -/
theorem left_take {l : List (List UInt8 × Nat)} {P T : List (List UInt8)} {b : Nat} (h : Left l P T) (hb : b < l.length) : Left (l.set b (l[b].1, 0)) P (T ++ [l[b].1]) := by
  have hms : (l.set b (l[b].1, 0)).map (·.1) = l.map (·.1) := by
    apply List.ext_getElem
    · simp
    · intro i h1 h2
      simp only [List.getElem_map, List.getElem_set]
      split
      · rename_i e; subst e; rfl
      · rfl
  refine ⟨by rw [hms]; exact h.1, fun s => by rw [hms]; exact h.2.1 s, fun p hp => ?_⟩
  obtain ⟨i, hi, rfl⟩ := List.mem_iff_getElem.1 hp
  rw [List.length_set] at hi
  rw [List.getElem_set]
  by_cases hib : b = i
  · subst hib
    rw [if_pos rfl, if_pos]
    simp
  · rw [if_neg hib, h.2.2 _ (List.getElem_mem hi)]
    have hne : l[i].1 ≠ l[b].1 := by
      intro e
      have := (List.getElem_inj (h₀ := by simpa using hi) (h₁ := by simpa using hb) h.1).1 (by simpa using e)
      exact hib this.symm
    by_cases hm : l[i].1 ∈ T
    · rw [if_pos hm, if_pos (List.mem_append.2 (.inl hm))]
    · rw [if_neg hm, if_neg]
      intro hc
      rcases List.mem_append.1 hc with hc | hc
      · exact hm hc
      · exact hne (List.mem_singleton.1 hc)
theorem left_srt (l : List (List UInt8 × Nat)) (P : List (List UInt8)) (h : (l.map (·.1)).Nodup ∧ (∀ s, s ∈ l.map (·.1) ↔ s ∈ P) ∧ ∀ p ∈ l, p.2 = P.count p.1) : Left l P ((srt P).take 0) :=
  ⟨h.1, h.2.1, fun p hp => by rw [List.take_zero, if_neg List.not_mem_nil]; exact h.2.2 p hp⟩
end Go.Proofs.Ytmcioglidgbibaa.Sym
