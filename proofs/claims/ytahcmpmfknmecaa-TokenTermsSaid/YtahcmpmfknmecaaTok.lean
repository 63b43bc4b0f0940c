/- Lines cut into runs of token bytes, their terms: plain lists, no program. -/
namespace Go.Proofs.Ytahcmpmfknmecaa.Tok

/-- A to Z -/
def cap (c : UInt8) : Bool := decide (65 ≤ c.toNat) && decide (c.toNat ≤ 90)
/-- a token byte -/
def inB (c : UInt8) : Bool := decide (97 ≤ c.toNat) && decide (c.toNat ≤ 122) || cap c || decide (48 ≤ c.toNat) && decide (c.toNat ≤ 57) || decide (128 ≤ c.toNat)
def low (c : UInt8) : UInt8 := if cap c then c + 32 else c
def lower (s : List UInt8) : List UInt8 := s.map low
/-- the term of a run -/
def term (r : List UInt8) : List UInt8 := if r.length ≤ 64 then lower r else []
/-- the runs of what is left, 'cur' being the run that stands open -/
def go (cur : List UInt8) : List UInt8 → List (List UInt8)
  | [] => if cur = [] then [] else [cur]
  | c :: r => if inB c then go (cur ++ [c]) r else if cur = [] then go [] r else cur :: go [] r
/-- what is left of the terms -/
def rest (cur l : List UInt8) : List (List UInt8) := (go cur l).map term
def cuts (l : List UInt8) : List (List UInt8) := rest [] l
/-- is it a term? -/
def is (s : List UInt8) : Bool := decide (1 ≤ s.length) && decide (s.length ≤ 64) && s.all fun c => inB c && !cap c
/-- the texts that are there -/
def found (l : List UInt8) : List (List UInt8) := (cuts l).filter fun s => !s.isEmpty

theorem cap_low (c : UInt8) : cap (low c) = false := by
  unfold low
  split
  · rename_i h
    simp only [cap, Bool.and_eq_true, decide_eq_true_eq] at h
    have : (c + 32).toNat = c.toNat + 32 := by rw [UInt8.toNat_add]; show (c.toNat + 32) % 256 = _; omega
    simp only [cap, this, Bool.and_eq_false_iff, decide_eq_false_iff_not]
    omega
  · rename_i h
    simpa using h
theorem low_of (c : UInt8) (h : cap c = false) : low c = c := by unfold low; rw [h]; rfl
theorem low_low (c : UInt8) : low (low c) = low c := low_of _ (cap_low c)
theorem inB_low (c : UInt8) : inB (low c) = inB c := by
  unfold low
  split
  · rename_i h
    have h' := h
    simp only [cap, Bool.and_eq_true, decide_eq_true_eq] at h
    have : (c + 32).toNat = c.toNat + 32 := by rw [UInt8.toNat_add]; show (c.toNat + 32) % 256 = _; omega
    have h1 : inB c = true := by simp [inB, h']
    rw [h1]
    simp only [inB, this, Bool.or_eq_true, Bool.and_eq_true, decide_eq_true_eq]
    left; left; left
    omega
  · rfl
theorem inB_blank : inB 32 = false := by decide
theorem lower_lower (s : List UInt8) : lower (lower s) = lower s := by simp [lower, low_low, Function.comp_def]
theorem lower_length (s : List UInt8) : (lower s).length = s.length := by simp [lower]
theorem lower_eq (s : List UInt8) (h : ∀ c ∈ s, cap c = false) : lower s = s := by
  unfold lower
  conv => rhs; rw [← List.map_id s]
  exact List.map_congr_left fun c hc => low_of c (h c hc)
theorem lower_self (s : List UInt8) : lower s = s ↔ ∀ c ∈ s, cap c = false := by
  refine ⟨fun h c hc => ?_, lower_eq s⟩
  rw [← h] at hc
  obtain ⟨d, _, rfl⟩ := List.mem_map.1 hc
  exact cap_low d
theorem term_length (r : List UInt8) : (term r).length ≤ 64 := by
  unfold term
  split
  · rwa [lower_length]
  · simp
theorem term_lower (r : List UInt8) : term (lower r) = term r := by
  unfold term
  rw [lower_length, lower_lower]

theorem go_nil : go [] [] = [] := rfl
theorem go_end (cur : List UInt8) (h : cur ≠ []) : go cur [] = [cur] := by simp [go, h]
theorem go_in {c : UInt8} (cur r : List UInt8) (h : inB c = true) : go cur (c :: r) = go (cur ++ [c]) r := by simp [go, h]
theorem go_out {c : UInt8} (r : List UInt8) (h : inB c = false) : go [] (c :: r) = go [] r := by simp [go, h]
theorem go_stop {c : UInt8} (cur r : List UInt8) (hc : cur ≠ []) (h : inB c = false) : go cur (c :: r) = cur :: go [] (c :: r) := by simp [go, h, hc]

theorem rest_nil : rest [] [] = [] := rfl
theorem rest_end (cur : List UInt8) (h : cur ≠ []) : rest cur [] = [term cur] := by simp [rest, go_end cur h]
theorem rest_in {c : UInt8} (cur r : List UInt8) (h : inB c = true) : rest cur (c :: r) = rest (cur ++ [c]) r := by simp [rest, go_in cur r h]
theorem rest_out {c : UInt8} (r : List UInt8) (h : inB c = false) : rest [] (c :: r) = rest [] r := by simp [rest, go_out r h]
theorem rest_stop {c : UInt8} (cur r : List UInt8) (hc : cur ≠ []) (h : inB c = false) : rest cur (c :: r) = term cur :: rest [] (c :: r) := by simp [rest, go_stop cur r hc h]

/-- the piece from s to a of a line -/
def piece (l : List UInt8) (s a : Nat) : List UInt8 := (l.drop s).take (a - s)
theorem piece_self (l : List UInt8) (s : Nat) : piece l s s = [] := by simp [piece]
theorem piece_next {l : List UInt8} {s a : Nat} (h : s ≤ a) (ha : a < l.length) : piece l s (a + 1) = piece l s a ++ [l[a]] := by
  unfold piece
  rw [show a + 1 - s = (a - s) + 1 from by omega, List.take_succ_eq_append_getElem (by simp; omega)]
  congr 2
  rw [List.getElem_drop]
  congr 1
  omega
theorem piece_length {l : List UInt8} {s a : Nat} (h : s ≤ a) (ha : a ≤ l.length) : (piece l s a).length = a - s := by simp [piece]; omega
theorem piece_ne {l : List UInt8} {s a : Nat} (h : s < a) (ha : a ≤ l.length) : piece l s a ≠ [] := by
  intro e
  have := piece_length (l := l) (by omega : s ≤ a) ha
  rw [e] at this
  simp at this
  omega

theorem step_out {l : List UInt8} {a : Nat} (ha : a < l.length) (h : inB l[a] = false) : rest [] (l.drop a) = rest [] (l.drop (a + 1)) := by
  rw [List.drop_eq_getElem_cons ha, rest_out _ h]
theorem step_in {l : List UInt8} {s a : Nat} (hs : s ≤ a) (ha : a < l.length) (h : inB l[a] = true) : rest (piece l s a) (l.drop a) = rest (piece l s (a + 1)) (l.drop (a + 1)) := by
  rw [List.drop_eq_getElem_cons ha, rest_in _ _ h, piece_next hs ha]
theorem step_stop {l : List UInt8} {s a : Nat} (hs : s < a) (ha : a < l.length) (h : inB l[a] = false) : rest (piece l s a) (l.drop a) = term (piece l s a) :: rest [] (l.drop a) := by
  rw [List.drop_eq_getElem_cons ha, rest_stop _ _ (piece_ne hs (by omega)) h]
theorem step_end {l : List UInt8} {s : Nat} (hs : s < l.length) : rest (piece l s l.length) (l.drop l.length) = term (piece l s l.length) :: rest [] (l.drop l.length) := by
  rw [List.drop_length, rest_end _ (piece_ne hs (Nat.le_refl _)), rest_nil]
theorem at_end (l : List UInt8) : rest [] (l.drop l.length) = [] := by rw [List.drop_length]; rfl

theorem go_len (cur l : List UInt8) : (go cur l).length ≤ l.length + 1 := by
  induction l generalizing cur with
  | nil => unfold go; split <;> simp
  | cons c r ih =>
    unfold go
    split
    · have := ih (cur ++ [c]); simp only [List.length_cons]; omega
    · split
      · have := ih []; simp only [List.length_cons]; omega
      · have := ih []; simp only [List.length_cons]; omega
theorem cuts_len (l : List UInt8) : (cuts l).length ≤ l.length + 1 := by
  unfold cuts rest
  rw [List.length_map]
  exact go_len [] l

/-- a line and the line made lower -/
theorem go_lower (cur l : List UInt8) : go (lower cur) (lower l) = (go cur l).map lower := by
  induction l generalizing cur with
  | nil =>
    by_cases h : cur = []
    · subst h; rfl
    · have h' : lower cur ≠ [] := by simpa [lower] using h
      show go (lower cur) [] = _
      rw [go_end _ h', go_end _ h]
      rfl
  | cons c r ih =>
    show go (lower cur) (low c :: lower r) = _
    rcases hc : inB c with _ | _
    · have hl : inB (low c) = false := by rw [inB_low]; exact hc
      by_cases h : cur = []
      · subst h
        show go [] (low c :: lower r) = _
        rw [go_out _ hl, go_out _ hc]
        exact ih []
      · have h' : lower cur ≠ [] := by simpa [lower] using h
        rw [go_stop _ _ h' hl, go_stop _ _ h hc, go_out _ hl, go_out _ hc, List.map_cons]
        exact congrArg _ (ih [])
    · have hl : inB (low c) = true := by rw [inB_low]; exact hc
      rw [go_in _ _ hl, go_in _ _ hc, ← ih (cur ++ [c])]
      simp [lower]
theorem cuts_lower (l : List UInt8) : cuts (lower l) = cuts l := by
  have := go_lower [] l
  unfold cuts rest
  rw [show go [] (lower l) = go (lower []) (lower l) from rfl, this, List.map_map]
  exact List.map_congr_left fun r _ => term_lower r

/-- two lines with a blank between -/
theorem go_parts (cur a b : List UInt8) : go cur (a ++ 32 :: b) = go cur a ++ go [] b := by
  induction a generalizing cur with
  | nil =>
    by_cases h : cur = []
    · subst h; rw [List.nil_append, go_out _ inB_blank]; rfl
    · rw [List.nil_append, go_stop _ _ h inB_blank, go_out _ inB_blank, go_end _ h]; rfl
  | cons c r ih =>
    rw [List.cons_append]
    rcases hc : inB c with _ | _
    · by_cases h : cur = []
      · subst h; rw [go_out _ hc, go_out _ hc]; exact ih []
      · rw [go_stop _ _ h hc, go_stop _ _ h hc, go_out _ hc, go_out _ hc, List.cons_append]; exact congrArg _ (ih [])
    · rw [go_in _ _ hc, go_in _ _ hc]; exact ih _
theorem cuts_parts (a b : List UInt8) : cuts (a ++ 32 :: b) = cuts a ++ cuts b := by simp [cuts, rest, go_parts]

theorem go_all (cur s : List UInt8) (h : ∀ c ∈ s, inB c = true) : go cur s = if cur ++ s = [] then [] else [cur ++ s] := by
  induction s generalizing cur with
  | nil => simp [go]
  | cons c r ih =>
    rw [go_in _ _ (h c (by simp)), ih _ fun d hd => h d (by simp [hd])]
    simp
theorem is_iff (s : List UInt8) : is s = true ↔ (1 ≤ s.length ∧ s.length ≤ 64) ∧ ∀ c ∈ s, inB c = true ∧ cap c = false := by
  simp [is]
theorem is_ne {s : List UInt8} (h : is s = true) : s ≠ [] := by
  rintro rfl
  simp [is] at h
/-- a term is the one term of itself -/
theorem cuts_is {s : List UInt8} (h : is s = true) : cuts s = [s] := by
  have h' := (is_iff s).1 h
  unfold cuts rest
  rw [go_all [] s fun c hc => (h'.2 c hc).1, List.nil_append, if_neg (is_ne h), List.map_cons, List.map_nil, term, if_pos h'.1.2, lower_eq s fun c hc => (h'.2 c hc).2]
/-- terms with a blank behind each -/
def joined : List (List UInt8) → List UInt8
  | [] => []
  | s :: r => s ++ 32 :: joined r
theorem joined_append (a b : List (List UInt8)) : joined (a ++ b) = joined a ++ joined b := by
  induction a with
  | nil => rfl
  | cons s r ih => simp [joined, ih]
theorem joined_snoc (a : List (List UInt8)) (s : List UInt8) : joined (a ++ [s]) = joined a ++ s ++ [32] := by rw [joined_append]; simp [joined]
theorem joined_length (a : List (List UInt8)) (h : ∀ s ∈ a, is s = true) : (joined a).length ≤ 65 * a.length := by
  induction a with
  | nil => simp [joined]
  | cons s r ih =>
    have h1 := ((is_iff s).1 (h s (by simp))).1.2
    have h2 := ih fun t ht => h t (by simp [ht])
    simp only [joined, List.length_append, List.length_cons]
    omega
theorem cuts_joined (a : List (List UInt8)) (h : ∀ s ∈ a, is s = true) : cuts (joined a) = a := by
  induction a with
  | nil => rfl
  | cons s r ih => rw [joined, cuts_parts, cuts_is (h s (by simp)), ih fun t ht => h t (by simp [ht])]; rfl

theorem go_mem (cur l : List UInt8) (hc : ∀ c ∈ cur, inB c = true) : ∀ r ∈ go cur l, r ≠ [] ∧ ∀ c ∈ r, inB c = true := by
  induction l generalizing cur with
  | nil =>
    intro r hr
    by_cases h : cur = []
    · subst h; cases hr
    · rw [go_end _ h, List.mem_singleton] at hr
      subst hr
      exact ⟨h, hc⟩
  | cons c l ih =>
    intro r hr
    rcases hb : inB c with _ | _
    · by_cases h : cur = []
      · subst h
        rw [go_out _ hb] at hr
        exact ih [] (by simp) r hr
      · rw [go_stop _ _ h hb, go_out _ hb] at hr
        rcases List.mem_cons.1 hr with rfl | hr
        · exact ⟨h, hc⟩
        · exact ih [] (by simp) r hr
    · rw [go_in _ _ hb] at hr
      exact ih (cur ++ [c]) (by
        intro d hd
        rcases List.mem_append.1 hd with hd | hd
        · exact hc d hd
        · rw [List.mem_singleton.1 hd]; exact hb) r hr
/-- a text that is there is a term -/
theorem found_is (l : List UInt8) : ∀ s ∈ found l, is s = true := by
  intro s hs
  obtain ⟨h1, h2⟩ := List.mem_filter.1 hs
  obtain ⟨r, hr, rfl⟩ := List.mem_map.1 h1
  obtain ⟨h3, h4⟩ := go_mem [] l (by simp) r hr
  have hne : term r ≠ [] := by
    intro e
    rw [e] at h2
    simp at h2
  have hl : r.length ≤ 64 := by
    rcases Nat.lt_or_ge 64 r.length with h | h
    · exact absurd (by unfold term; rw [if_neg (by omega)]) hne
    · exact h
  have ht : term r = lower r := by unfold term; rw [if_pos hl]
  rw [is_iff, ht]
  refine ⟨⟨?_, by rw [lower_length]; exact hl⟩, fun c hc => ?_⟩
  · rw [lower_length]
    exact List.length_pos_iff.2 h3
  · obtain ⟨d, hd, rfl⟩ := List.mem_map.1 hc
    exact ⟨by rw [inB_low]; exact h4 d hd, cap_low d⟩
end Go.Proofs.Ytahcmpmfknmecaa.Tok
