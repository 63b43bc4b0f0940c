/- A table's bytes, and the table that bytes begin with: plain. -/
import Derived.Test.YtmcioglidgbibaaTakeRow
import Derived.Test.YtmcioglidgbibaaSym
namespace Go.Proofs.Ytmcioglidgbibaa.Sym

/-- a table's bytes -/
def table (t : List (List UInt8)) : List UInt8 := Num.num t.length ++ (t.map Num.row).flatten
/-- so many rows of b from a place on, behind those that there are: these, and where one stands then -/
def rows (b : List UInt8) : Nat → List (List UInt8) → Nat → Option (List (List UInt8) × Nat)
  | 0, t, at_ => some (t, at_)
  | n + 1, t, at_ => if (Num.takeRow (b.drop at_) 8).2.2 = 0 then rows b n (t ++ [(Num.takeRow (b.drop at_) 8).1]) (at_ + (Num.takeRow (b.drop at_) 8).2.1) else none
/-- the table, its size, the error -/
def told : Option (List (List UInt8) × Nat) → List (List UInt8) × Nat × Nat
  | some (t, at_) => if Formed t then (t, at_, 0) else ([], 0, 2)
  | none => ([], 0, 2)
/-- the table that bytes begin with: it, its size, the error -/
def takeTable (b : List UInt8) : List (List UInt8) × Nat × Nat :=
  if (Num.take b).2.2 = 0 ∧ (Num.take b).1 ≤ 32 then told (rows b (Num.take b).1 [] (Num.take b).2.1) else ([], 0, 2)

theorem takeRow_eq {l : List UInt8} {v s : Nat} {most : Int} (h0 : 0 ≤ most) (ht : Num.take l = (v, s, 0)) : Num.takeRow l most = if most < (v : Int) then ([], 0, 5) else if l.length < s + v then ([], 0, 3) else ((l.drop s).take v, s + v, 0) := by
  unfold Num.takeRow
  rw [if_neg (by omega), ht, if_pos rfl]
theorem takeRow_cases (l : List UInt8) : (∃ s k, Num.takeRow l 8 = (s, k, 0) ∧ s.length ≤ 8 ∧ 1 ≤ k ∧ k ≤ l.length) ∨ ∃ e, Num.takeRow l 8 = ([], 0, e) ∧ e ≠ 0 ∧ e ≤ 5 := by
  rcases Num.take_cases l with ⟨v, s, ht⟩ | ⟨e, ht, he⟩
  · rw [takeRow_eq (by omega) ht]
    obtain ⟨_, hs, hsl, _⟩ := Num.num_take ht
    have := Num.size_pos v
    split
    · exact .inr ⟨5, rfl, by omega, by omega⟩
    · split
      · exact .inr ⟨3, rfl, by omega, by omega⟩
      · refine .inl ⟨_, _, rfl, ?_, by omega, by omega⟩
        rw [List.length_take]; omega
  · refine .inr ⟨e, ?_, by omega, by omega⟩
    unfold Num.takeRow
    rw [if_neg (by omega), ht, if_neg (by simp only; omega)]
theorem takeRow_row {s : List UInt8} (h : s.length ≤ 8) (more : List UInt8) : Num.takeRow (Num.row s ++ more) 8 = (s, (Num.row s).length, 0) := by
  have ht : Num.take (Num.row s ++ more) = (s.length, Num.size s.length, 0) := by
    unfold Num.row
    rw [List.append_assoc]
    exact Num.take_num (by omega) _
  have hl := Num.row_length s
  have hnl := Num.num_length s.length
  rw [takeRow_eq (by omega) ht, if_neg (by omega), if_neg (by rw [List.length_append]; omega), hl]
  have e : ((Num.row s ++ more).drop (Num.size s.length)).take s.length = s := by
    unfold Num.row
    rw [List.append_assoc, List.drop_left' hnl, List.take_left' rfl]
  rw [e]
theorem rows_back (b more : List UInt8) : ∀ (rest t : List (List UInt8)) (at_ : Nat), (∀ s ∈ rest, s.length ≤ 8) → b.drop at_ = (rest.map Num.row).flatten ++ more → rows b rest.length t at_ = some (t ++ rest, at_ + (rest.map Num.row).flatten.length) := by
  intro rest
  induction rest with
  | nil => intro t at_ _ _; simp [rows]
  | cons s rest ih =>
    intro t at_ hs hb
    rw [List.map_cons, List.flatten_cons, List.append_assoc] at hb
    have hr := takeRow_row (hs s (by simp)) ((rest.map Num.row).flatten ++ more)
    rw [← hb] at hr
    rw [List.length_cons, rows, hr, if_pos rfl]
    have hb2 : b.drop (at_ + (Num.row s).length) = (rest.map Num.row).flatten ++ more := by
      rw [← List.drop_drop, hb, List.drop_left' rfl]
    rw [ih (t ++ [s]) (at_ + (Num.row s).length) (fun x hx => hs x (by simp [hx])) hb2]
    simp [Nat.add_assoc]
theorem takeTable_back {t : List (List UInt8)} (ht : Formed t) (more : List UInt8) : takeTable (table t ++ more) = (t, (table t).length, 0) := by
  have hn := Num.take_num (v := t.length) (by have := ht.1; omega) ((t.map Num.row).flatten ++ more)
  have e : table t ++ more = Num.num t.length ++ ((t.map Num.row).flatten ++ more) := by unfold table; rw [List.append_assoc]
  unfold takeTable
  rw [e, hn, if_pos ⟨rfl, ht.1⟩]
  simp only
  rw [rows_back _ more t [] _ (fun s hs => (ht.2.1 s hs).2) (List.drop_left' (Num.num_length _)), List.nil_append, told, if_pos ht]
  rw [table, List.length_append, Num.num_length]
theorem table_length_le {t : List (List UInt8)} (ht : Formed t) : (table t).length ≤ 9 + 17 * t.length := by
  have h9 := Num.size_le9 (v := t.length) (by have := ht.1; omega)
  have h2 : ∀ l : List (List UInt8), (∀ s ∈ l, s.length ≤ 8) → (l.map Num.row).flatten.length ≤ 17 * l.length := by
    intro l
    induction l with
    | nil => intro _; simp
    | cons s l ih =>
      intro h
      have h1 := h s (by simp)
      have h3 := Num.size_le9 (v := s.length) (by omega)
      have := ih (fun x hx => h x (by simp [hx]))
      rw [List.map_cons, List.flatten_cons, List.length_append, Num.row_length, List.length_cons]
      omega
  rw [table, List.length_append, Num.num_length]
  have := h2 t (fun s hs => (ht.2.1 s hs).2)
  omega
theorem table_pos (t : List (List UInt8)) : 1 ≤ (table t).length := by
  rw [table, List.length_append, Num.num_length]
  have := Num.size_pos t.length
  omega
end Go.Proofs.Ytmcioglidgbibaa.Sym
