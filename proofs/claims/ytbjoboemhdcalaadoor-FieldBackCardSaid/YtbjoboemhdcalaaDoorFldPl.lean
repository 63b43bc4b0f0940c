/- Fields, plainly: two lines with a blank between; the line of one field. -/
import Derived.Test.YtbjoboemhdcalaaDoorFldW
namespace Go.Proofs.YtbjoboemhdcalaaDoor.Fld
open Go

theorem spans_cat (c : UInt8) (hc : blank c = true) (b : List UInt8) : ∀ (a : List UInt8) (s i : Nat), spans s i (a ++ c :: b) = spans s i a ++ spans (i + a.length + 1) (i + a.length + 1) b
  | [], s, i => by
    have e : spans s i (c :: b) = if s < i then (s, i) :: spans (i + 1) (i + 1) b else spans (i + 1) (i + 1) b := by
      conv => lhs; unfold spans
      rw [if_pos hc]
    rw [List.nil_append, e, show spans s i [] = (if s < i then [(s, i)] else []) from rfl]
    split <;> simp
  | x :: r, s, i => by
    rw [List.cons_append, spans, spans, List.length_cons]
    have e : i + 1 + r.length + 1 = i + (r.length + 1) + 1 := by omega
    rw [spans_cat c hc b r (i + 1) (i + 1), spans_cat c hc b r s (i + 1), e]
    split
    · split <;> simp
    · rfl
theorem spans_shift (d : Nat) : ∀ (b : List UInt8) (s i : Nat), spans (s + d) (i + d) b = (spans s i b).map fun p => (p.1 + d, p.2 + d)
  | [], s, i => by
    rw [spans, spans]
    by_cases h : s < i
    · rw [if_pos h, if_pos (by omega)]; rfl
    · rw [if_neg h, if_neg (by omega)]; rfl
  | x :: r, s, i => by
    rw [spans, spans]
    have e : i + d + 1 = i + 1 + d := by omega
    rw [e, spans_shift d r (i + 1) (i + 1), spans_shift d r s (i + 1)]
    split
    · by_cases h : s < i
      · rw [if_pos h, if_pos (by omega)]; rfl
      · rw [if_neg h, if_neg (by omega)]
    · rfl
theorem words_cat (a b : List UInt8) (c : UInt8) (hc : blank c = true) : words (a ++ c :: b) = words a ++ words b := by
  unfold words
  rw [spans_cat c hc b a 0 0, List.map_append]
  congr 1
  · apply List.map_congr_left
    intro p hp
    have h := spans_mem a 0 0 (Nat.le_refl _) p hp
    unfold piece
    rw [List.drop_append_of_le_length (by omega), List.take_append_of_le_length (by rw [List.length_drop]; omega)]
  · have e := spans_shift (a.length + 1) b 0 0
    simp only [Nat.zero_add] at e ⊢
    rw [e, List.map_map]
    apply List.map_congr_left
    intro p hp
    unfold piece
    show ((a ++ c :: b).drop (p.1 + (a.length + 1))).take (p.2 + (a.length + 1) - (p.1 + (a.length + 1))) = _
    rw [show p.2 + (a.length + 1) - (p.1 + (a.length + 1)) = p.2 - p.1 from by omega]
    congr 1
    rw [List.drop_append, List.drop_eq_nil_of_le (by omega), List.nil_append, show p.1 + (a.length + 1) - a.length = p.1 + 1 from by omega]
    rfl

/-- a field behind others, if its key is new and there is room -/
def addF (fs : List F) (f : F) : List F := if has fs f.key = true ∨ 16 ≤ fs.length then fs else fs ++ [f]
/-- fields behind others -/
def addAll (fs : List F) (more : List F) : List F := more.foldl addF fs
theorem addAll_snoc (fs more : List F) (f : F) : addAll fs (more ++ [f]) = addF (addAll fs more) f := by unfold addAll; rw [List.foldl_append]; rfl
theorem step_some {fs : List F} {w : List UInt8} {f : F} (h : one w = some f) : step fs w = addF fs f := by unfold step addF; rw [h]
theorem step_none {fs : List F} {w : List UInt8} (h : one w = none) : step fs w = fs := by unfold step; rw [h]
theorem has_snoc (fs : List F) (f : F) (k : List UInt8) : has (fs ++ [f]) k = (has fs k || f.key == k) := by unfold has; rw [List.any_append]; simp
theorem addF_keeps {fs : List F} {f : F} {k : List UInt8} (h : has fs k = true ∨ 16 ≤ fs.length) : has (addF fs f) k = true ∨ 16 ≤ (addF fs f).length := by
  unfold addF
  split
  · exact h
  · rcases h with h | h
    · left; rw [has_snoc, h]; rfl
    · right; simp; omega
theorem addF_has (fs : List F) (f : F) : has (addF fs f) f.key = true ∨ 16 ≤ (addF fs f).length := by
  unfold addF
  split
  · assumption
  · left; rw [has_snoc]; simp
theorem addAll_has (X : List F) (k : List UInt8) : ∀ (n : Nat) (Y : List F), Y.length = n → has Y k = true → has (addAll X Y) k = true ∨ 16 ≤ (addAll X Y).length := by
  intro n
  induction n with
  | zero => intro Y hn h; rw [List.eq_nil_of_length_eq_zero hn] at h; cases h
  | succ n ih =>
    intro Y hn h
    have hne : Y ≠ [] := fun e => by rw [e] at hn; cases hn
    obtain ⟨P, f, rfl⟩ : ∃ P f, Y = P ++ [f] := ⟨Y.dropLast, Y.getLast hne, (List.dropLast_concat_getLast hne).symm⟩
    rw [addAll_snoc]
    rw [has_snoc, Bool.or_eq_true] at h
    rcases h with h | h
    · exact addF_keeps (ih P (by simp at hn; omega) h)
    · have : f.key = k := by simpa using h
      rw [← this]
      exact addF_has _ f
theorem steps_snoc (fs : List F) (ws : List (List UInt8)) (w : List UInt8) : steps fs (ws ++ [w]) = step (steps fs ws) w := by unfold steps; rw [List.foldl_append]; rfl
theorem addF_prefix (fs : List F) (f : F) : fs <+: addF fs f := by
  unfold addF
  split
  · exact List.prefix_refl _
  · exact ⟨[f], rfl⟩
theorem step_prefix (fs : List F) (w : List UInt8) : fs <+: step fs w := by
  cases h : one w with
  | none => rw [step_none h]; exact List.prefix_refl _
  | some f => rw [step_some h]; exact addF_prefix fs f
theorem steps_parts (X : List F) : ∀ (n : Nat) (ws : List (List UInt8)), ws.length = n → addAll X (steps [] ws) <+: steps X ws ∧ ((steps [] ws).length < 16 → steps X ws = addAll X (steps [] ws)) := by
  intro n
  induction n with
  | zero => intro ws hn; rw [List.eq_nil_of_length_eq_zero hn]; exact ⟨List.prefix_refl _, fun _ => rfl⟩
  | succ n ih =>
    intro ws hn
    have hne : ws ≠ [] := fun e => by rw [e] at hn; cases hn
    obtain ⟨P, w, rfl⟩ : ∃ P w, ws = P ++ [w] := ⟨ws.dropLast, ws.getLast hne, (List.dropLast_concat_getLast hne).symm⟩
    obtain ⟨h1, h2⟩ := ih P (by simp at hn; omega)
    rw [steps_snoc, steps_snoc]
    have hle := steps_le P (fs := []) (by simp)
    generalize steps [] P = Y at *
    generalize steps X P = Z at *
    by_cases h16 : Y.length < 16
    · have hZ := h2 h16
      subst hZ
      cases ho : one w with
      | none => rw [step_none ho, step_none ho]; exact ⟨List.prefix_refl _, fun _ => rfl⟩
      | some f =>
        rw [step_some ho, step_some ho]
        by_cases hh : has Y f.key = true
        · have e1 : addF Y f = Y := by unfold addF; rw [if_pos (.inl hh)]
          have e2 : addF (addAll X Y) f = addAll X Y := by unfold addF; rw [if_pos (addAll_has X f.key _ Y rfl hh)]
          rw [e1, e2]
          exact ⟨List.prefix_refl _, fun _ => rfl⟩
        · have hno : ¬ (has Y f.key = true ∨ 16 ≤ Y.length) := fun h => by
            rcases h with h | h
            · exact hh h
            · omega
          have e1 : addF Y f = Y ++ [f] := by unfold addF; rw [if_neg hno]
          rw [e1, addAll_snoc]
          exact ⟨List.prefix_refl _, fun _ => rfl⟩
    · have e : step Y w = Y := step_full w (by omega)
      rw [e]
      exact ⟨h1.trans (step_prefix Z w), fun h => absurd h h16⟩
/-- two lines with a blank between -/
theorem read_cat (a b : List UInt8) (c : UInt8) (hc : blank c = true) : addAll (read a) (read b) <+: read (a ++ c :: b) ∧ ((read b).length < 16 → read (a ++ c :: b) = addAll (read a) (read b)) := by
  have e : read (a ++ c :: b) = steps (read a) (words b) := by
    unfold read steps
    rw [words_cat a b c hc, List.foldl_append]
  rw [e]
  exact steps_parts (read a) _ (words b) rfl
theorem addF_le {fs : List F} (f : F) (h : fs.length ≤ 16) : (addF fs f).length ≤ 16 := by
  unfold addF
  split
  · exact h
  · simp; omega
theorem addAll_le {fs : List F} (h : fs.length ≤ 16) : ∀ (more : List F), (addAll fs more).length ≤ 16 := by
  intro more
  unfold addAll
  induction more generalizing fs with
  | nil => exact h
  | cons f r ih => exact ih (addF_le f h)
theorem addAll_take {X more : List F} {k : Nat} (h : k < more.length) : addAll X (more.take (k + 1)) = addF (addAll X (more.take k)) more[k] := by
  rw [List.take_succ_eq_append_getElem h, addAll_snoc]

theorem spans_none : ∀ (l : List UInt8) (s i : Nat), l.all (fun c => !blank c) = true → spans s i l = if s < i + l.length then [(s, i + l.length)] else []
  | [], s, i, _ => rfl
  | c :: r, s, i, h => by
    simp only [List.all_cons, Bool.and_eq_true, Bool.not_eq_true'] at h
    rw [spans, if_neg (by rw [h.1]; simp), spans_none r s (i + 1) h.2, List.length_cons, show i + 1 + r.length = i + (r.length + 1) from by omega]
theorem words_one {l : List UInt8} (hne : l ≠ []) (h : l.all (fun c => !blank c) = true) : words l = [l] := by
  unfold words
  have hp := List.length_pos_iff.2 hne
  rw [spans_none l 0 0 h, if_pos (by omega)]
  simp [piece]
theorem keyByte_eq {c : UInt8} (h : keyByte c = true) : ¬ c.toNat = 61 ∧ blank c = false := by
  simp only [keyByte, Bool.or_eq_true, Bool.and_eq_true, decide_eq_true_eq, beq_iff_eq] at h
  refine ⟨by omega, ?_⟩
  rw [← Bool.not_eq_true]
  simp only [blank, Bool.or_eq_true, beq_iff_eq]
  omega
theorem eqAt_key : ∀ (k v : List UInt8), k.all keyByte = true → eqAt (k ++ 61 :: v) = k.length
  | [], v, _ => by rw [List.nil_append, eqAt, if_pos (by rfl)]; rfl
  | c :: r, v, h => by
    simp only [List.all_cons, Bool.and_eq_true] at h
    rw [List.cons_append, eqAt, if_neg (keyByte_eq h.1).1, eqAt_key r v h.2]
    rfl
theorem isKey_all {k : List UInt8} (h : isKey k = true) : 1 ≤ k.length ∧ k.length ≤ 32 ∧ k.all keyByte = true := by
  simp only [isKey, Bool.and_eq_true, decide_eq_true_eq] at h
  exact ⟨h.1.1, h.1.2, h.2⟩
/-- the line of one field -/
theorem read_one {k v : List UInt8} (hk : isKey k = true) (hv : v.length ≤ 64) (hb : v.all (fun c => !blank c) = true) : read (k ++ 61 :: v) = [mk k v] := by
  obtain ⟨h1, h2, h3⟩ := isKey_all hk
  have hall : (k ++ 61 :: v).all (fun c => !blank c) = true := by
    rw [List.all_append, List.all_cons, hb]
    have : k.all (fun c => !blank c) = true := by
      rw [List.all_eq_true] at h3 ⊢
      intro c hc
      rw [(keyByte_eq (h3 c hc)).2]
      rfl
    rw [this]
    rfl
  unfold read
  rw [words_one (by simp) hall]
  show step [] (k ++ 61 :: v) = _
  have ho : one (k ++ 61 :: v) = some (mk k v) := by
    unfold one
    rw [eqAt_key k v h3, List.take_left, show (k ++ 61 :: v).drop (k.length + 1) = v from by rw [List.drop_append, List.drop_eq_nil_of_le (by omega)]; simp, if_pos ⟨by simp, hk, hv⟩]
  rw [step_some ho]
  rfl
end Go.Proofs.YtbjoboemhdcalaaDoor.Fld
