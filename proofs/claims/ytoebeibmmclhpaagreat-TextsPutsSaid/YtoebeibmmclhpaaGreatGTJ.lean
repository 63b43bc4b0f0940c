/- Texts of several layers, one behind the other: SymTab SymCmp SymSort StrsMore SymForm SymTake SymTrain SymCodes SymEnc StrBytes SymPut SymBest. -/
import Derived.Test.YtoebeibmmclhpaaGreatGTA
import Derived.Test.YtoebeibmmclhpaaGreatGTB
import Derived.Test.YtoebeibmmclhpaaGreatGTC
import Derived.Deep.QuietTactic
import Derived.BigQuiet
import Derived.Test.YtoebeibmmclhpaaGreatSortLay
import Derived.Shelf.SlSortCmp.NoneTotal
import Derived.Laws.Slices
import Derived.Deep.LoopGhost
import Derived.Maps.RangeWalk
import Derived.Sort.KeysCollected
import Derived.Sort.OwnSorted
import Derived.Laws.EntriesVeiled
import Derived.Deep.RegionHeld3
import Derived.StillTailTactics
import Derived.WalkMore
import Derived.Laws.IdiomStrings
/- A table's bytes, and the table that bytes begin with: plain. -/
namespace Go.Proofs.YtoebeibmmclhpaaGreat.Sym
/-- a table's bytes -/
def table (t : List (List UInt8)) : List UInt8 := Num.num t.length ++ (t.map Num.row).flatten
/-- so many rows of b from a place on, behind those that there are: these, and where one stands then -/
def rows (b : List UInt8) : Nat → List (List UInt8) → Nat → Option (List (List UInt8) × Nat)
  | 0, t, at_ => some (t, at_)
  | n + 1, t, at_ => if (Num.takeRow (b.drop at_) 8).2.2 = 0 then rows b n (t ++ [(Num.takeRow (b.drop at_) 8).1]) (at_ + (Num.takeRow (b.drop at_) 8).2.1) else none
/-- the table, its size, the error -/
def told : Option (List (List UInt8) × Nat) → List (List UInt8) × Nat × Nat
  | some (t, at_) => if Formed t then (t, at_, 0) else ([], 0, 2)
  | none => ([], 0, 2)
/-- the table that bytes begin with: it, its size, the error -/
def takeTable (b : List UInt8) : List (List UInt8) × Nat × Nat :=
  if (Num.take b).2.2 = 0 ∧ (Num.take b).1 ≤ 32 then told (rows b (Num.take b).1 [] (Num.take b).2.1) else ([], 0, 2)
theorem takeRow_eq {l : List UInt8} {v s : Nat} {most : Int} (h0 : 0 ≤ most) (ht : Num.take l = (v, s, 0)) : Num.takeRow l most = if most < (v : Int) then ([], 0, 5) else if l.length < s + v then ([], 0, 3) else ((l.drop s).take v, s + v, 0) := by
  unfold Num.takeRow
  rw [if_neg (by omega), ht, if_pos rfl]
theorem takeRow_cases (l : List UInt8) : (∃ s k, Num.takeRow l 8 = (s, k, 0) ∧ s.length ≤ 8 ∧ 1 ≤ k ∧ k ≤ l.length) ∨ ∃ e, Num.takeRow l 8 = ([], 0, e) ∧ e ≠ 0 ∧ e ≤ 5 := by
  rcases Num.take_cases l with ⟨v, s, ht⟩ | ⟨e, ht, he⟩
  · rw [takeRow_eq (by omega) ht]
    obtain ⟨_, hs, hsl, _⟩ := Num.num_take ht
    have := Num.size_pos v
    split
    · exact .inr ⟨5, rfl, by omega, by omega⟩
    · split
      · exact .inr ⟨3, rfl, by omega, by omega⟩
      · refine .inl ⟨_, _, rfl, ?_, by omega, by omega⟩
        rw [List.length_take]; omega
  · refine .inr ⟨e, ?_, by omega, by omega⟩
    unfold Num.takeRow
    rw [if_neg (by omega), ht, if_neg (by simp only; omega)]
theorem takeRow_row {s : List UInt8} (h : s.length ≤ 8) (more : List UInt8) : Num.takeRow (Num.row s ++ more) 8 = (s, (Num.row s).length, 0) := by
  have ht : Num.take (Num.row s ++ more) = (s.length, Num.size s.length, 0) := by
    unfold Num.row
    rw [List.append_assoc]
    exact Num.take_num (by omega) _
  have hl := Num.row_length s
  have hnl := Num.num_length s.length
  rw [takeRow_eq (by omega) ht, if_neg (by omega), if_neg (by rw [List.length_append]; omega), hl]
  have e : ((Num.row s ++ more).drop (Num.size s.length)).take s.length = s := by
    unfold Num.row
    rw [List.append_assoc, List.drop_left' hnl, List.take_left' rfl]
  rw [e]
theorem rows_back (b more : List UInt8) : ∀ (rest t : List (List UInt8)) (at_ : Nat), (∀ s ∈ rest, s.length ≤ 8) → b.drop at_ = (rest.map Num.row).flatten ++ more → rows b rest.length t at_ = some (t ++ rest, at_ + (rest.map Num.row).flatten.length) := by
  intro rest
  induction rest with
  | nil => intro t at_ _ _; simp [rows]
  | cons s rest ih =>
    intro t at_ hs hb
    rw [List.map_cons, List.flatten_cons, List.append_assoc] at hb
    have hr := takeRow_row (hs s (by simp)) ((rest.map Num.row).flatten ++ more)
    rw [← hb] at hr
    rw [List.length_cons, rows, hr, if_pos rfl]
    have hb2 : b.drop (at_ + (Num.row s).length) = (rest.map Num.row).flatten ++ more := by
      rw [← List.drop_drop, hb, List.drop_left' rfl]
    rw [ih (t ++ [s]) (at_ + (Num.row s).length) (fun x hx => hs x (by simp [hx])) hb2]
    simp [Nat.add_assoc]
theorem takeTable_back {t : List (List UInt8)} (ht : Formed t) (more : List UInt8) : takeTable (table t ++ more) = (t, (table t).length, 0) := by
  have hn := Num.take_num (v := t.length) (by have := ht.1; omega) ((t.map Num.row).flatten ++ more)
  have e : table t ++ more = Num.num t.length ++ ((t.map Num.row).flatten ++ more) := by unfold table; rw [List.append_assoc]
  unfold takeTable
  rw [e, hn, if_pos ⟨rfl, ht.1⟩]
  simp only
  rw [rows_back _ more t [] _ (fun s hs => (ht.2.1 s hs).2) (List.drop_left' (Num.num_length _)), List.nil_append, told, if_pos ht]
  rw [table, List.length_append, Num.num_length]
theorem table_length_le {t : List (List UInt8)} (ht : Formed t) : (table t).length ≤ 9 + 17 * t.length := by
  have h9 := Num.size_le9 (v := t.length) (by have := ht.1; omega)
  have h2 : ∀ l : List (List UInt8), (∀ s ∈ l, s.length ≤ 8) → (l.map Num.row).flatten.length ≤ 17 * l.length := by
    intro l
    induction l with
    | nil => intro _; simp
    | cons s l ih =>
      intro h
      have h1 := h s (by simp)
      have h3 := Num.size_le9 (v := s.length) (by omega)
      have := ih (fun x hx => h x (by simp [hx]))
      rw [List.map_cons, List.flatten_cons, List.length_append, Num.row_length, List.length_cons]
      omega
  rw [table, List.length_append, Num.num_length]
  have := h2 t (fun s hs => (ht.2.1 s hs).2)
  omega
theorem table_pos (t : List (List UInt8)) : 1 ≤ (table t).length := by
  rw [table, List.length_append, Num.num_length]
  have := Num.size_pos t.length
  omega
end Go.Proofs.YtoebeibmmclhpaaGreat.Sym

/- The comparison by which sym.Train sorts. -/
namespace Go.Proofs.YtoebeibmmclhpaaGreat
open Go.RowKit
set_option maxRecDepth 100000
theorem less_eq : ∀ (x y : List UInt8), Op.bytesLess x y = decide (x < y)
  | [], [] => by simp [Op.bytesLess]
  | _ :: _, [] => by simp [Op.bytesLess]
  | [], _ :: _ => by simp [Op.bytesLess]
  | a :: x, b :: y => by
    rw [Op.bytesLess, less_eq x y]
    simp only [List.cons_lt_cons_iff]
    by_cases h1 : a < b <;> by_cases h2 : a = b <;> by_cases h3 : x < y <;> simp [h1, h2, h3]
theorem isNaNInt_any (x : Int) (w : World) : Calls Tryz.prog 118 #[.int .i64 x] w fun e w' => e = .returned (.bool false) ∧ w = w' := by
  have h : (x != x) = false := by simp
  go_enter Tryz.func118, Tryz.ntmps118
  go_wp2
  go_ret
  exact ⟨rfl, rfl⟩
theorem isNaNStr_any (x : List UInt8) (w : World) : Calls Tryz.prog 119 #[.string ⟨x.toArray⟩] w fun e w' => e = .returned (.bool false) ∧ w = w' := by
  have h : (x != x) = false := by simp
  go_enter Tryz.func119, Tryz.ntmps119
  go_wp2
  go_ret
  exact ⟨rfl, rfl⟩
/-- compared -/
def cmpI (x y : Int) : Int := if x < y then -1 else if y < x then 1 else 0
def cmpS (x y : List UInt8) : Int := if x < y then -1 else if y < x then 1 else 0
theorem compareInt_any (x y : Int) (w : World) : Calls Tryz.prog 105 #[.int .i64 x, .int .i64 y] w fun e w' => e = .returned (.int .i64 (cmpI x y)) ∧ w = w' := by
  by_cases h1 : x < y
  · have e : cmpI x y = -1 := by unfold cmpI; rw [if_pos h1]
    rw [e]
    clear e
    go_enter Tryz.func105, Tryz.ntmps105
    go_wp2_with (go_at_call 118; refine (isNaNInt_any _ _).mono ?_; rintro e w' ⟨rfl, rfl⟩)
    go_ret
    exact ⟨rfl, rfl⟩
  · by_cases h2 : y < x
    · have e : cmpI x y = 1 := by unfold cmpI; rw [if_neg h1, if_pos h2]
      rw [e]
      clear e
      go_enter Tryz.func105, Tryz.ntmps105
      go_wp2_with (go_at_call 118; refine (isNaNInt_any _ _).mono ?_; rintro e w' ⟨rfl, rfl⟩)
      go_ret
      exact ⟨rfl, rfl⟩
    · have e : cmpI x y = 0 := by unfold cmpI; rw [if_neg h1, if_neg h2]
      rw [e]
      clear e
      go_enter Tryz.func105, Tryz.ntmps105
      go_wp2_with (go_at_call 118; refine (isNaNInt_any _ _).mono ?_; rintro e w' ⟨rfl, rfl⟩)
      go_ret
      exact ⟨rfl, rfl⟩
theorem compareStr_any (x y : List UInt8) (w : World) : Calls Tryz.prog 106 #[.string ⟨x.toArray⟩, .string ⟨y.toArray⟩] w fun e w' => e = .returned (.int .i64 (cmpS x y)) ∧ w = w' := by
  by_cases h1 : x < y
  · have e : cmpS x y = -1 := by unfold cmpS; rw [if_pos h1]
    rw [e]
    have hl : Op.bytesLess x y = true := by rw [less_eq]; exact decide_eq_true h1
    clear e h1
    go_enter Tryz.func106, Tryz.ntmps106
    go_wp2_with (go_at_call 119; refine (isNaNStr_any _ _).mono ?_; rintro e w' ⟨rfl, rfl⟩)
    go_ret
    exact ⟨rfl, rfl⟩
  · have hl : Op.bytesLess x y = false := by rw [less_eq]; exact decide_eq_false h1
    by_cases h2 : y < x
    · have e : cmpS x y = 1 := by unfold cmpS; rw [if_neg h1, if_pos h2]
      rw [e]
      have hne : (x == y) = false := by
        rw [beq_eq_false_iff_ne]
        rintro rfl
        exact absurd h2 h1
      clear e h1 h2
      go_enter Tryz.func106, Tryz.ntmps106
      go_wp2_with (go_at_call 119; refine (isNaNStr_any _ _).mono ?_; rintro e w' ⟨rfl, rfl⟩)
      go_ret
      exact ⟨rfl, rfl⟩
    · have e : cmpS x y = 0 := by unfold cmpS; rw [if_neg h1, if_neg h2]
      rw [e]
      obtain rfl : x = y := List.le_antisymm (List.not_lt.1 h2) (List.not_lt.1 h1)
      have hne : (x == x) = true := by simp
      clear e h1 h2
      go_enter Tryz.func106, Tryz.ntmps106
      go_wp2_with (go_at_call 119; refine (isNaNStr_any _ _).mono ?_; rintro e w' ⟨rfl, rfl⟩)
      go_ret
      exact ⟨rfl, rfl⟩
theorem val_bound {P : List (List UInt8)} (hP : P.length ≤ 7168) {s : List UInt8} (hs : s.length ≤ 8) : -7168 ≤ Sym.val P s ∧ Sym.val P s ≤ 50176 := by
  have hc : P.count s ≤ P.length := List.count_le_length
  unfold Sym.val
  obtain ⟨c, hc'⟩ : ∃ c, c = P.count s := ⟨_, rfl⟩
  rw [← hc'] at hc ⊢
  have : s.length = 0 ∨ s.length = 1 ∨ s.length = 2 ∨ s.length = 3 ∨ s.length = 4 ∨ s.length = 5 ∨ s.length = 6 ∨ s.length = 7 ∨ s.length = 8 := by omega
  rcases this with h | h | h | h | h | h | h | h | h <;> rw [h] <;> omega
/-- sym.Train's value: what a piece is worth -/
theorem value_any (g M : Nat) (P : List (List UInt8)) (x : List UInt8) (w : World) (hP : P.length ≤ 7168) (hx : x.length ≤ 8) (hc : w.cell? ⟨g, 0, none⟩ = some (.map (some M))) (h : Counts w M P) :
    Calls Tryz.prog 102 #[.string ⟨x.toArray⟩, .pointer (some ⟨g, 0, none⟩)] w fun e w' => e = .returned (.int .i64 (Sym.val P x)) ∧ w = w' := by
  have hl := run_look1_strmap h Tryz.underlying125 Tryz.underlying3 zeroI64 (s := x) (by unfold maxLen; omega)
  rw [Sym.cnt_get] at hl
  have hb := val_bound hP hx
  have hv : Sym.val P x = ((x.length : Int) - 1) * (P.count x : Int) := rfl
  have hb1 : -7168 ≤ ((x.length : Int) - 1) * (P.count x : Int) := by rw [← hv]; exact hb.1
  have hb2 : ((x.length : Int) - 1) * (P.count x : Int) ≤ 50176 := by rw [← hv]; exact hb.2
  have Hv := Lib.hid hv
  clear h hv hb
  generalize P.count x = C at *
  go_enter Tryz.func102, Tryz.ntmps102
  go_wp2
  go_ret
  refine ⟨?_, rfl⟩
  rw [Hv.out]
  rfl
/-- what sym.Train's comparison answers -/
def cfT (P : List (List UInt8)) (x y : List UInt8) : Int := if cmpI (Sym.val P y) (Sym.val P x) ≠ 0 then cmpI (Sym.val P y) (Sym.val P x) else cmpS x y
theorem cfT_neg {P : List (List UInt8)} {x y : List UInt8} : cfT P x y < 0 ↔ Sym.ahead P x y = true := by
  rw [Sym.ahead_iff]
  unfold cfT cmpI cmpS
  by_cases h1 : Sym.val P y < Sym.val P x
  · rw [if_pos h1]; simp [h1]
  · rw [if_neg h1]
    by_cases h2 : Sym.val P x < Sym.val P y
    · rw [if_pos h2]
      simp [h1]
      omega
    · rw [if_neg h2]
      have e : Sym.val P y = Sym.val P x := by omega
      simp only [ne_eq, not_true_eq_false, if_false, e, true_and]
      by_cases h3 : x < y
      · rw [if_pos h3]; simp [h3]
      · rw [if_neg h3]
        simp only [h3, Int.lt_irrefl, false_or]
        split <;> simp
set_option maxHeartbeats 1000000 in
theorem compare_any (g4 g3 M : Nat) (P : List (List UInt8)) (x y : List UInt8) (w : World) (hP : P.length ≤ 7168) (hx : x.length ≤ 8) (hy : y.length ≤ 8)
    (c4 : w.cell? ⟨g4, 0, none⟩ = some (.func (.func 102) #[] #[.pointer (some ⟨g3, 0, none⟩)])) (c3 : w.cell? ⟨g3, 0, none⟩ = some (.map (some M))) (h : Counts w M P) :
    Calls Tryz.prog 104 #[.string ⟨x.toArray⟩, .string ⟨y.toArray⟩, .pointer (some ⟨g4, 0, none⟩)] w fun e w' => e = .returned (.int .i64 (cfT P x y)) ∧ ∃ q, w' = w.drewN q := by
  have HV := Lib.hid fun (s : List UInt8) (hs : s.length ≤ 8) (n : Nat) => value_any g3 M P s (w.drewN n) hP hs c3 (by exact h)
  have HC := Lib.hid fun (n : Nat) => compareInt_any (Sym.val P y) (Sym.val P x) (w.drewN n)
  have HS := Lib.hid fun (n : Nat) => compareStr_any x y (w.drewN n)
  unfold cfT
  obtain ⟨v, hv⟩ : ∃ v : List UInt8 → Int, v = Sym.val P := ⟨_, rfl⟩
  rw [← hv] at HC ⊢
  have HV2 : Hid (∀ (s : List UInt8), s.length ≤ 8 → ∀ n : Nat, Calls Tryz.prog 102 #[.string ⟨s.toArray⟩, .pointer (some ⟨g3, 0, none⟩)] (w.drewN n) fun e w' => e = .returned (.int .i64 (v s)) ∧ w.drewN n = w') := Lib.hid (by rw [hv]; exact HV.out)
  clear h hv HV
  by_cases hz : cmpI (v y) (v x) = 0
  · rw [if_neg (by simpa using hz)]
    rw [hz] at HC
    generalize cmpS x y = r at *
    clear hz
    go_enter Tryz.func104, Tryz.ntmps104
    go_wp2_with fail
    go_quiet ((first | (go_at_call 102; exact quiet_left (HV2.out _ (by assumption) _)) | (go_at_call 105; exact quiet_left (HC.out _))))
    go_wp2_with (go_at_call 106; refine (HS.out _).mono ?_; rintro e w' ⟨rfl, rfl⟩)
    go_ret
    exact ⟨rfl, _, rfl⟩
  · rw [if_pos hz]
    generalize cmpI (v y) (v x) = r at *
    have hz' : (r != 0) = true := by simpa using hz
    go_enter Tryz.func104, Tryz.ntmps104
    go_wp2_with fail
    go_quiet ((first | (go_at_call 102; exact quiet_left (HV2.out _ (by assumption) _)) | (go_at_call 105; exact quiet_left (HC.out _))))
    go_wp2
    go_ret
    exact ⟨rfl, _, rfl⟩
end Go.Proofs.YtoebeibmmclhpaaGreat

/- The sort of the candidates, by the library's contract. -/
namespace Go.Proofs.YtoebeibmmclhpaaGreat
open Go.RowKit Go.Sort Go.Shelf
set_option maxRecDepth 100000
/-- texts of at most eight letters -/
abbrev S8 := {l : List UInt8 // l.length ≤ 8}
instance : Inhabited S8 := ⟨⟨[], by simp⟩⟩
def enc8 (x : S8) : Value := .string ⟨x.1.toArray⟩
theorem enc8_one : OneCell enc8 := fun _ => rfl
def cf8 (P : List (List UInt8)) (x y : S8) : Int := cfT P x.1 y.1
theorem lt8 (P : List (List UInt8)) (x y : S8) : ltOf (cf8 P) x y = Sym.ahead P x.1 y.1 := by
  unfold ltOf cf8
  rw [Bool.eq_iff_iff, decide_eq_true_iff]
  exact cfT_neg
theorem swo8 (P : List (List UInt8)) : SWO (ltOf (cf8 P)) where
  irrefl x := by rw [lt8]; exact Sym.ahead_irrefl P x.1
  trans x y z h1 h2 := by rw [lt8] at *; exact Sym.ahead_trans h1 h2
  ntrans x y z h1 h2 := by rw [lt8] at *; exact Sym.ahead_ntrans h1 h2
theorem tot8 (P : List (List UInt8)) (x y : S8) (h1 : ltOf (cf8 P) x y = false) (h2 : ltOf (cf8 P) y x = false) : x = y := by
  rw [lt8] at *
  exact Subtype.ext (Sym.ahead_same h1 h2)
theorem grownBy_sortWorld {α : Type} [Inhabited α] (enc : α → Value) (w : World) (g n : Nat) (d : Array α) (os : Array Obj) : w.grownBy (sortWorld enc w g 0 n d os) (some g) := by
  unfold sortWorld
  refine ⟨rfl, rfl, rfl, by simp, fun k hk hne => ?_⟩
  rw [heap_grow_old _ _ (by simpa using hk)]
  have : g ≠ k := fun e => hne (by rw [e])
  simp [putRow, mapBlock, Sort.ahead, Array.getElem?_modify, this]
theorem heap_sortWorld {α : Type} [Inhabited α] (enc : α → Value) {w : World} {g n : Nat} {os : Array Obj} {cur : Array Value} {e : TypeId} {fr : Nat × Nat} (d : Array α) (hb : w.heap[g]? = some (.cells cur e fr)) :
    (sortWorld enc w g 0 n d os).heap[g]? = some (.cells (putCells enc 0 d cur) e fr) := by
  unfold sortWorld
  have hg : g < w.heap.size := (Array.getElem?_eq_some_iff.1 hb).1
  rw [heap_grow_old _ _ (by simpa using hg)]
  simp [putRow, mapBlock, Sort.ahead, Array.getElem?_modify, hb, onCells]
theorem take_put8 (cur : Array Value) (ts : List S8) (h : ts.length ≤ cur.size) : (putCells enc8 0 ts.toArray cur).toList.take ts.length = ts.map enc8 := by
  apply List.ext_getElem?
  intro j
  by_cases hj : j < ts.length
  · rw [List.getElem?_take_of_lt hj, Array.getElem?_toList]
    simp [putCells, hj, show j < cur.size by omega]
  · rw [List.getElem?_take_eq_none (by omega), List.getElem?_eq_none (by simp; omega)]
theorem holds8 {w : World} {g : Nat} {cur : Array Value} {e : TypeId} {ss : List S8} (hb : w.heap[g]? = some (.cells cur e (0, 0))) (ht : cur.toList.take ss.length = ss.map enc8) : Holds enc8 w g 0 ss.toArray := by
  intro j hj
  have hj' : j < ss.length := by simpa using hj
  refine ⟨?_, by simp [World.frozen?, hb]⟩
  have h1 : (cur.toList.take ss.length)[j]? = (ss.map enc8)[j]? := by rw [ht]
  rw [List.getElem?_take_of_lt hj'] at h1
  simp only [World.cell?, hb, Nat.zero_add]
  simp only [Option.isSome_none, Bool.false_eq_true, if_false]
  rw [← Array.getElem?_toList, h1]
  simp [hj']
theorem list8 : ∀ (ss : List (List UInt8)), (∀ s ∈ ss, s.length ≤ 8) → ∃ l : List S8, l.map (·.1) = ss
  | [], _ => ⟨[], rfl⟩
  | s :: r, h => by
    obtain ⟨l, hl⟩ := list8 r (fun x hx => h x (by simp [hx]))
    exact ⟨⟨s, h s (by simp)⟩ :: l, by rw [List.map_cons, hl]⟩
theorem cell_far {w w' : World} {row : Option Nat} (hg : w.grownBy w' row) {g i : Nat} {v : Value} (h : w.cell? ⟨g, i, none⟩ = some v) (hlt : g < w.heap.size) (hne : some g ≠ row) : w'.cell? ⟨g, i, none⟩ = some v := by
  unfold World.cell? at *
  rw [hg.block g hlt hne]
  exact h
theorem sortFunc_any (A : Option Addr) (n c base g4 g3 M : Nat) (P ss : List (List UInt8)) (w : World) (ho : SOwn w base A n c ss) (h4 : g4 < base) (h3 : g3 < base) (hM : M < base) (hn : n < 4611686018427387904) (h8 : ∀ s ∈ ss, s.length ≤ 8) (hP : P.length ≤ 7168) (hbase : base ≤ w.heap.size)
    (c4 : w.cell? ⟨g4, 0, none⟩ = some (.func (.func 102) #[] #[.pointer (some ⟨g3, 0, none⟩)])) (c3 : w.cell? ⟨g3, 0, none⟩ = some (.map (some M))) (h : Counts w M P) :
    Calls Tryz.prog 103 #[.slice A n c, .func (.func 104) #[] #[.pointer (some ⟨g4, 0, none⟩)]] w fun e w' => e = .returned (.tuple #[]) ∧ SOwn w' base A n c (ss.mergeSort (Sym.leP P)) ∧ w.grownBy w' (blk A) := by
  by_cases h0 : n = 0
  · subst h0
    have hs : ss = [] := List.eq_nil_of_length_eq_zero ho.len
    subst hs
    have hS := AnyF.slices_SortFunc_none (P := Tryz.prog) (ρ := Tryz.sortL_ren) { Tryz.sortL with } A c (.func (.func 104) #[] #[.pointer (some ⟨g4, 0, none⟩)]) w
    refine Calls.mono hS fun e w' ⟨he, hw⟩ => ⟨he, ?_, ?_⟩
    · rw [hw, List.mergeSort_nil]; exact ho
    · rw [hw]; exact World.grownBy.refl w _
  · obtain ⟨g, rfl, hg1, hg2⟩ := ho.at_ (by omega)
    obtain ⟨l8, hl8⟩ := list8 ss h8
    have hlen : l8.length = n := by rw [← ho.len, ← hl8, List.length_map]
    rcases ho.2 with ⟨hnil, _⟩ | ⟨g', cap, cur, hv, hb1, hb2, hb3, hb4, hb5, hb6⟩
    · cases hnil
    · injection hv with hv1 hv2 hv3
      injection hv1 with hv1
      injection hv1 with hv1
      subst hv1 hv3
      have hcur : cur.toList.take l8.length = l8.map enc8 := by
        rw [hlen]
        rw [Nat.mul_one] at hb6
        rw [hb6, ← hl8, List.map_map]
        rfl
      have hH := holds8 hb2 hcur
      have eg : ∀ args w, (callFunc 104 args).run Tryz.prog w = .ok (.enter 104 args) w := enters_of Tryz.func104 (by kernel_rfl) rfl
      have hcmp : CmpReads Tryz.prog 104 #[.pointer (some ⟨g4, 0, none⟩)] enc8 (cf8 P) g 0 l8.toArray.size w := fun m os dk _ x y => by
        have hgr := grownBy_sortWorld enc8 w g m dk os
        exact compare_any g4 g3 M P x.1 y.1 _ hP x.2 y.2 (cell_far hgr c4 (by omega) (by simp; omega)) (cell_far hgr c3 (by omega) (by simp; omega)) (StrMap.kept h hgr (by simp; omega))
      have hS := Any.slices_SortFunc_total Tryz.sortL enc8 enc8_one (cf8 P) (swo8 P) 104 #[.pointer (some ⟨g4, 0, none⟩)] g 0 c l8.toArray w eg hcmp.lays hH hg2 (by rw [List.size_toArray]; omega) (tot8 P)
      rw [List.size_toArray, hlen] at hS
      refine Calls.mono hS fun e w' ⟨he, k, os, hw⟩ => ⟨he, ?_, ?_⟩
      · rw [hw]
        have hms : (l8.toArray.toList.mergeSort fun x y => !ltOf (cf8 P) y x).map (·.1) = ss.mergeSort (Sym.leP P) := by
          rw [← hl8]
          exact List.map_mergeSort (fun a _ b _ => by rw [lt8]; rfl)
        have hl2 : (l8.toArray.toList.mergeSort fun x y => !ltOf (cf8 P) y x).length = n := by rw [List.length_mergeSort]; exact hlen
        generalize (l8.toArray.toList.mergeSort fun x y => !ltOf (cf8 P) y x) = T at *
        refine ⟨by rw [List.length_map, ← hms, List.length_map, hl2, Nat.mul_one], .inr ⟨g, c, _, rfl, hb1, heap_sortWorld enc8 _ hb2, hb3, hb4, by simp [putCells, hb5], ?_⟩⟩
        rw [Nat.mul_one, ← hl2, take_put8 cur T (by omega), ← hms, List.map_map]
        rfl
      · rw [hw]; exact grownBy_sortWorld enc8 w g k _ os
end Go.Proofs.YtoebeibmmclhpaaGreat

/- Slices of strings: copied and looked through. -/
namespace Go.Proofs.YtoebeibmmclhpaaGreat
open Go.ChangeShapes Go.WideShapes Go.ChangeAt Go.RowKit
set_option maxRecDepth 100000
/-- what Index answers -/
def IdxPost (w : World) (t : List (List UInt8)) (s : List UInt8) (e : Ending) (w' : World) : Prop := ∃ k : Int, e = .returned (.int .i64 k) ∧ (0 ≤ k ↔ s ∈ t) ∧ w = w'
set_option maxHeartbeats 400000 in
theorem index_any (A : Option Addr) (n c B : Nat) (t : List (List UInt8)) (s : List UInt8) (w : World) (hl : t.length = n) (hn : n ≤ 140737488355328) (h1 : Strs w B A t) :
    Calls Tryz.prog 130 #[.slice A n c, .string ⟨s.toArray⟩] w (IdxPost w t s) := by
  have Hl := Lib.hid hl; clear hl
  go_enter Tryz.func130, Tryz.ntmps130
  go_wp2
  go_loop [8] (fun i => ∃ (k : Nat), k ≤ n ∧ i = .int .i64 k ∧ s ∉ t.take k) (fun i => n - (intOf i).toNat)
  case atStart => exact ⟨0, Nat.zero_le _, rfl, by simp⟩
  case round =>
    obtain ⟨k, hk, rfl, hnot⟩ := hrel
    by_cases hlt : k < n
    · have hk' : k < t.length := by have := Hl.out; omega
      obtain ⟨ad1, rfl, _, hc1⟩ := h1.get hk'
      simp only [sval] at hc1
      have hts : t.take (k + 1) = t.take k ++ [t[k]] := List.take_succ_eq_append_getElem hk'
      have hmem : t[k] ∈ t := List.getElem_mem hk'
      generalize t[k] = x at *
      by_cases hx : s = x
      · subst hx
        have hxx : (s == s) = true := by simp
        clear hts
        go_wp2
        go_ret
        exact ⟨k, rfl, iff_of_true (by omega) hmem, rfl⟩
      · have hxx : (s == x) = false := by simpa using hx
        have Hts := Lib.hid hts; clear hts
        have hx' : ¬ s.toArray = x.toArray := fun h => hx (by simpa using congrArg Array.toList h)
        go_wp2
        go_round
        case rel => exact ⟨k + 1, by omega, by go_num, by rw [Hts.out]; simp [hnot, hx]⟩
        case measure => simp [intOf]; omega
    · have Hnot : s ∉ t := by
        have := Hl.out
        rwa [List.take_of_length_le (by omega)] at hnot
      go_wp2
      go_ret
      exact ⟨-1, rfl, iff_of_false (by omega) Hnot, rfl⟩
theorem contains_any (A : Option Addr) (n c B : Nat) (t : List (List UInt8)) (s : List UInt8) (w : World) (hl : t.length = n) (hn : n ≤ 140737488355328) (h1 : Strs w B A t) :
    Calls Tryz.prog 115 #[.slice A n c, .string ⟨s.toArray⟩] w fun e w' => e = .returned (.bool (decide (s ∈ t))) ∧ w = w' := by
  have H := Lib.hid (index_any A n c B t s w hl hn h1)
  clear hl h1
  go_enter Tryz.func115, Tryz.ntmps115
  go_wp2_with fail
  refine H.out.mono ?_
  rintro e w1 ⟨k, rfl, hk, rfl⟩
  have Hk := Lib.hid (show decide (s ∈ t) = decide (0 ≤ k) from decide_eq_decide.2 hk.symm)
  clear H hk
  go_wp2
  go_ret
  exact ⟨by rw [Hk.out]; rfl, rfl⟩
end Go.Proofs.YtoebeibmmclhpaaGreat

/- sym.Formed and the document's: is it a table? -/
namespace Go.Proofs.YtoebeibmmclhpaaGreat
open Go.RowKit
set_option maxRecDepth 100000
theorem sizeStr (W : World) : (sizeOf 9).run Tryz.prog W = .ok 1 W := by
  obtain ⟨i0, hi0, hz0, hz1, hz2⟩ := info_parts string_info
  simp [sizeOf, typeInfo, hi0, hz1]
theorem elemOfStrs : Tryz.prog.elem 49 = 9 := by kernel_rfl
/-- the first strings of a slice -/
theorem run_cutStr_h (A : Option Addr) (n cap hi : Nat) (h2 : hi ≤ cap) (W : World) :
    (Instr.slice 49 (.slice A n cap) none (some (.int .i64 (hi : Int))) none).run Tryz.prog W = .ok (.slice A hi cap) W := by
  rw [run_slice_h (P := Tryz.prog) (w := W) (kh := .i64) (h := (hi : Int)) (h0 := by omega) (h2 := by omega) (ht := by rw [elemOfStrs]; exact Tryz.underlying49)]
  rw [elemOfStrs, sizeStr]
  by_cases hc : cap = 0 <;> cases A <;> simp [Result.andThen, sliced, Addr.add]
namespace Sym
/-- the first k symbols are right -/
def Ok (t : List (List UInt8)) (k : Nat) : Prop := (∀ s ∈ t.take k, 2 ≤ s.length ∧ s.length ≤ 8) ∧ (t.take k).Nodup
theorem ok_zero (t : List (List UInt8)) : Ok t 0 := ⟨by simp, by simp⟩
theorem ok_all {t : List (List UInt8)} (h : Ok t t.length) (hl : t.length ≤ 32) : formed t = true := by
  unfold Ok at h
  rw [List.take_length] at h
  exact formed_iff.2 ⟨hl, h.1, h.2⟩
theorem ok_step {t : List (List UInt8)} {k : Nat} (hk : k < t.length) (h : Ok t k) (h2 : 2 ≤ t[k].length) (h8 : t[k].length ≤ 8) (hn : t[k] ∉ t.take k) : Ok t (k + 1) := by
  unfold Ok
  rw [List.take_succ_eq_append_getElem hk]
  refine ⟨fun s hs => ?_, ?_⟩
  · rcases List.mem_append.1 hs with hs | hs
    · exact h.1 s hs
    · rw [List.mem_singleton] at hs
      subst hs
      exact ⟨h2, h8⟩
  · rw [List.nodup_append]
    refine ⟨h.2, by simp, fun a ha b hb => ?_⟩
    rw [List.mem_singleton] at hb
    subst hb
    exact fun e => hn (e ▸ ha)
theorem not_len {t : List (List UInt8)} {k : Nat} (hk : k < t.length) (h : t[k].length < 2 ∨ 8 < t[k].length) : formed t = false :=
  formed_not.2 fun ⟨_, h2, _⟩ => by have := h2 _ (List.getElem_mem hk); omega
theorem not_twice {t : List (List UInt8)} {k : Nat} (hk : k < t.length) (h : t[k] ∈ t.take k) : formed t = false := by
  refine formed_not.2 fun ⟨_, _, h3⟩ => ?_
  obtain ⟨j, hj, e⟩ := List.mem_iff_getElem.1 h
  rw [List.getElem_take] at e
  have hj' : j < k := by simp at hj; omega
  have := nodup_at h3 (by omega) hk e
  omega
theorem not_long {t : List (List UInt8)} (h : 32 < t.length) : formed t = false := formed_not.2 fun ⟨h1, _⟩ => by omega
end Sym
set_option maxHeartbeats 1000000 in
theorem formed_any (A : Option Addr) (n cap B : Nat) (t : List (List UInt8)) (w : World) (hl : t.length = n) (hcap : n ≤ cap) (hn : n ≤ 140737488355328) (h1 : Strs w B A t) (hs : ∀ s ∈ t, s.length ≤ maxLen) :
    Calls Tryz.prog 91 #[.slice A n cap] w fun e w' => e = .returned (.bool (Sym.formed t)) ∧ w = w' := by
  by_cases h32 : 32 < n
  · rw [Sym.not_long (by omega)]
    have h32' : (32 : Int) < (n : Int) := by omega
    clear h1 hs hl
    go_enter Tryz.func91, Tryz.ntmps91
    go_wp2
    go_ret
    exact ⟨rfl, rfl⟩
  · have h32' : ¬ ((32 : Int) < (n : Int)) := by omega
    have Hl := Lib.hid hl; clear hl
    have Hs := Lib.hid hs; clear hs
    go_enter Tryz.func91, Tryz.ntmps91
    go_wp2
    go_loop [10] (fun i => ∃ (k : Nat), k ≤ n ∧ i = .int .i64 k ∧ Sym.Ok t k) (fun i => n - (intOf i).toNat)
    case atStart => exact ⟨0, Nat.zero_le _, rfl, Sym.ok_zero t⟩
    case round =>
      obtain ⟨k, hk, rfl, hok⟩ := hrel
      by_cases hlt : k < n
      · have hk' : k < t.length := by have := Hl.out; omega
        obtain ⟨ad1, rfl, _, hc1⟩ := h1.get hk'
        have hmax := Hs.out _ (List.getElem_mem hk')
        unfold maxLen at hmax
        have HC := Lib.hid (contains_any (some ad1) k cap B (t.take k) t[k] w (by simp; omega) (by omega) (h1.take k))
        have HL := Lib.hid (Sym.not_len hk')
        have HT := Lib.hid (Sym.not_twice hk')
        have HS := Lib.hid (Sym.ok_step hk' hok)
        have hsl := run_cutStr_h (some ad1) n cap k (by omega)
        simp only [sval] at hc1
        generalize t[k] = x at *
        by_cases hx2 : x.length < 2
        · have hd : decide ((x.length : Int) < 2) = true := by simp; omega
          go_wp2
          go_ret
          exact ⟨by rw [HL.out (.inl hx2)]; rfl, rfl⟩
        · by_cases hx8 : 8 < x.length
          · have hd : decide ((x.length : Int) < 2) = false := by simp; omega
            have hd8 : decide (8 < (x.length : Int)) = true := by simp; omega
            go_wp2
            go_ret
            exact ⟨by rw [HL.out (.inr hx8)]; rfl, rfl⟩
          · have hd : decide ((x.length : Int) < 2) = false := by simp; omega
            have hd8 : decide (8 < (x.length : Int)) = false := by simp; omega
            by_cases hmem : x ∈ t.take k
            · rw [decide_eq_true hmem] at HC
              go_wp2_with (go_at_call 115; refine HC.out.mono ?_; rintro e w' ⟨rfl, rfl⟩)
              go_ret
              exact ⟨by rw [HT.out hmem]; rfl, rfl⟩
            · rw [decide_eq_false hmem] at HC
              have HR := Lib.hid (HS.out (by omega) (by omega) hmem)
              clear hok
              go_wp2_with (go_at_call 115; refine HC.out.mono ?_; rintro e w' ⟨rfl, rfl⟩)
              go_round
              case rel => exact ⟨k + 1, by omega, by go_num, HR.out⟩
              case measure => simp [intOf]; omega
      · have HE : Hid (Sym.formed t = true) := by
          have hkn : k = t.length := by have := Hl.out; omega
          rw [hkn] at hok
          exact Lib.hid (Sym.ok_all hok (by omega))
        clear hok
        go_wp2
        go_ret
        exact ⟨by rw [HE.out]; rfl, rfl⟩
end Go.Proofs.YtoebeibmmclhpaaGreat

/- sym.TakeTable. -/
namespace Go.Proofs.YtoebeibmmclhpaaGreat
open Go.RowKit
set_option maxRecDepth 100000
/-- what a call leaves that returns strings of its own, a number and an error -/
def TabPost (w : World) (r : List (List UInt8) × Nat × Nat) (e : Ending) (w' : World) : Prop :=
  ∃ A c, e = .returned (.tuple #[.slice A r.1.length c, .int .i64 (r.2.1 : Int), .int .i64 (r.2.2 : Int)]) ∧ SOwn w' w.heap.size A r.1.length c r.1 ∧ Below w.heap.size w w'
theorem sown_none (w : World) (base : Nat) : SOwn w base none 0 0 [] := ROwn.nil _ _ w base
theorem TabPost.none {w w' : World} (e : Nat) (hb : Below w.heap.size w w') : TabPost w ([], 0, e) (.returned (.tuple #[.slice none 0 0, .int .i64 0, .int .i64 (e : Int)])) w' := ⟨.none, 0, rfl, sown_none _ _, hb⟩
/-- a literal of one string -/
theorem own_str (w : World) (s : List UInt8) : SOwn (w.alloc (.cells #[.string ⟨s.toArray⟩] 9)) w.heap.size (some ⟨w.heap.size, 0, none⟩) 1 1 [s] :=
  ROwn.lit (f := sval) (e := 9) w w.heap.size [s] (Nat.le_refl _) (by simp [maxLen])
set_option maxHeartbeats 4000000 in
theorem takeTable_any (A : Option Addr) (n cap B : Nat) (b : List UInt8) (w : World) (hl : b.length = n) (hcap : n ≤ cap) (hm : n ≤ 140737488355328) (hb : Bytes w B A b) (hB : B ≤ w.heap.size) :
    Calls Tryz.prog 60 #[.slice A n cap] w (TabPost w (Sym.takeTable b)) := by
  have H1 := take_any A n cap B b w hl hcap (by omega) hb
  unfold TakePost at H1
  unfold Sym.takeTable
  rcases Num.take_cases b with ⟨v, s, ht⟩ | ⟨e, ht, he⟩
  · obtain ⟨_, hs, hsn, hv⟩ := Num.num_take ht
    rw [hl] at hsn
    simp only [ht, true_and] at H1 ⊢
    obtain ⟨x, hx, hx0, hx1⟩ : ∃ x : Int, x = (v : Int) ∧ 0 ≤ x ∧ x ≤ 18446744073709551615 := ⟨v, rfl, by omega, by omega⟩
    rw [← hx] at H1
    replace H1 := Lib.hid H1
    by_cases hv32 : v ≤ 32
    · rw [if_pos hv32]
      have hx32 : ¬ (32 < x) := by omega
      have hx64 : x ≤ 64 := by omega
      have hb' := hb.wide hB
      have Hl := Lib.hid hl
      have Hx := Lib.hid hx
      clear hl hb hs hv hx1 hx ht
      go_enter Tryz.func60, Tryz.ntmps60
      go_wp2_with fail
      refine H1.out.mono ?_
      rintro e w1 ⟨rfl, rfl⟩
      clear H1
      go_wp2
      go_loopg [6, 8, 25] v (fun g sv tv i wx => ∃ (k at_ : Nat) (A2 : Option Addr) (c2 : Nat) (t : List (List UInt8)), k + g = v ∧ at_ ≤ n ∧ i = .int .u64 (k : Int) ∧ sv = .int .i64 (at_ : Int) ∧ tv = .slice A2 t.length c2 ∧ SOwn wx w.heap.size A2 t.length c2 t ∧ t.length = k ∧ (∀ s ∈ t, s.length ≤ 8) ∧ Sym.rows b g t at_ = Sym.rows b v [] s ∧ Below w.heap.size w wx)
      case atStart => exact ⟨0, s, none, 0, [], by omega, hsn, rfl, rfl, rfl, sown_none _ _, rfl, by simp, rfl, Below.refl _ _⟩
      case round =>
        obtain ⟨k, at_, A2, c2, t, hkg, hat, rfl, rfl, rfl, hown, htl, h8, hrows, hbel⟩ := hrel
        have HR := Lib.hid hrows; clear hrows
        have H8 := Lib.hid h8; clear h8
        have HTL := Lib.hid htl; clear htl
        have hszw := hbel.size
        by_cases hkv : k < v
        · have hkx : (k : Int) < x := by rw [Hx.out]; omega
          have hbr := hb'.below hbel
          have hsl := run_cut_from A n cap at_ (n - at_) (by omega)
          have hcut := hbr.cut (k := at_) (cap := cap) (by rw [Hl.out]; exact hat) (by rw [Hl.out]; exact hcap)
          have HT := takeRow_any (cutAt A cap at_) (n - at_) (cap - at_) w.heap.size (b.drop at_) 8 wr (by rw [List.length_drop, Hl.out]) (by omega) (by omega) hcut hszw (by omega) (by omega)
          unfold RowPost at HT
          rcases Sym.takeRow_cases (b.drop at_) with ⟨y, q, hy, hy8, hq1, hq⟩ | ⟨e, hy, he0, he5⟩
          · simp only [hy] at HT
            rw [List.length_drop, Hl.out] at hq
            replace HT := Lib.hid HT
            have HR2 : Hid (Sym.rows b (v - (k + 1)) (t ++ [y]) (at_ + q) = Sym.rows b v [] s) := by
              have := HR.out
              rw [show gk = (v - (k + 1)) + 1 from by omega, Sym.rows, hy, if_pos rfl] at this
              exact Lib.hid this
            generalize cutAt A cap at_ = A3 at *
            clear hy hcut hbr
            go_wp2_with fail
            refine HT.out.mono ?_
            rintro e w2 ⟨A4, c4, rfl, ho4, hb4⟩
            clear HT
            have hcv := run_string_of ho4.bytes c4
            have hown2 : SOwn w2 w.heap.size A2 t.length c2 t := hown.below hb4
            have hbel2 := hbel.trans (hb4.mono hszw)
            have hsz2 := hbel2.size
            have hone := (own_str w2 y).row
            have hoa := hown2.alloc (.cells #[.string ⟨y.toArray⟩] 9)
            have hba : Below w.heap.size w (w2.alloc (.cells #[.string ⟨y.toArray⟩] 9)) := hbel2.alloc hsz2 _
            have hsza : w.heap.size ≤ (w2.alloc (.cells #[.string ⟨y.toArray⟩] 9)).heap.size := by simp; omega
            have htl32 : t.length ≤ 32 := by rw [HTL.out]; omega
            clear hb4 ho4 hown hown2 hbel2 hsz2
            go_wp2_with (at_builtin; refine wpList_append_row elemStr rfl (.tmp 37) (.tmp 40) rfl w.heap.size A2 t.length c2 t rfl hoa _ _ 1 1 [y] rfl rfl hone (by omega) (by simp only [maxLen]; omega) hsza ?_; intro A5 c5 w5 ho5 hg5 hat5)
            have hbel5 := hba.grown hg5 hsza (fun q hq => (hoa.lt hq).1)
            have Hl5 := Lib.hid (show (t ++ [y]).length = t.length + 1 from by simp)
            clear hg5 hat5 hoa hone hba hcv hsl
            go_roundg (v - (k + 1))
            case measure => omega
            case rel => exact ⟨k + 1, at_ + q, A5, c5, t ++ [y], by omega, by omega, by go_num, by go_num, by rw [Hl5.out], by rw [Hl5.out]; exact ho5, by rw [Hl5.out, HTL.out], fun z hz => by rcases List.mem_append.1 hz with h | h; exact H8.out z h; rw [List.mem_singleton.1 h]; exact hy8, HR2.out, hbel5⟩
          · simp only [hy] at HT
            replace HT := Lib.hid HT
            have HR2 : Hid (Sym.rows b v [] s = none) := by
              have := HR.out
              rw [show gk = (v - (k + 1)) + 1 from by omega, Sym.rows, hy, if_neg he0] at this
              exact Lib.hid this.symm
            have he' : ¬ ((e : Int) = 0) := by omega
            generalize cutAt A cap at_ = A3 at *
            clear hy hcut hbr
            go_wp2_with fail
            refine HT.out.mono ?_
            rintro e w2 ⟨A4, c4, rfl, ho4, hb4⟩
            clear HT
            have hbel2 := hbel.trans (hb4.mono hszw)
            clear hb4 ho4 hown hsl
            go_wp2
            go_ret3
            exact ⟨none, 0, by rw [HR2.out]; rfl, by rw [HR2.out]; exact sown_none _ _, hbel2⟩
        · have hkx : ¬ ((k : Int) < x) := by rw [Hx.out]; omega
          have HR2 : Hid (Sym.rows b v [] s = some (t, at_)) := by
            have := HR.out
            rw [show gk = 0 from by omega, Sym.rows] at this
            exact Lib.hid this.symm
          have htl32 : t.length ≤ 32 := by rw [HTL.out]; omega
          have hcap2 := hown.cap
          have HF := formed_any A2 t.length c2 wr.heap.size t wr rfl hcap2 (by omega) hown.row (fun s hs => by have := H8.out s hs; unfold maxLen; omega)
          by_cases hf : Sym.Formed t
          · rw [Sym.formed_iff.2 hf] at HF
            replace HF := Lib.hid HF
            have HE : Hid (Sym.told (Sym.rows b v [] s) = (t, at_, 0)) := Lib.hid (by rw [HR2.out, Sym.told, if_pos hf])
            clear hf HR HR2
            go_wp2_with fail
            refine HF.out.mono ?_
            rintro e w2 ⟨rfl, rfl⟩
            clear HF
            go_wp2
            go_ret3
            exact ⟨A2, c2, by rw [HE.out]; rfl, by rw [HE.out]; exact hown, hbel⟩
          · rw [Sym.formed_not.2 hf] at HF
            replace HF := Lib.hid HF
            have HE : Hid (Sym.told (Sym.rows b v [] s) = ([], 0, 2)) := Lib.hid (by rw [HR2.out, Sym.told, if_neg hf])
            clear hf HR HR2
            go_wp2_with fail
            refine HF.out.mono ?_
            rintro e w2 ⟨rfl, rfl⟩
            clear HF
            go_wp2
            go_ret3
            exact ⟨none, 0, by rw [HE.out]; rfl, by rw [HE.out]; exact sown_none _ _, hbel⟩
    · rw [if_neg hv32]
      have hx32 : 32 < x := by omega
      clear hl hb hs hv hx ht
      go_enter Tryz.func60, Tryz.ntmps60
      go_wp2_with fail
      refine H1.out.mono ?_
      rintro e w1 ⟨rfl, rfl⟩
      clear H1
      go_wp2
      go_ret3
      exact TabPost.none 2 (Below.refl _ _)
  · simp only [ht] at H1 ⊢
    rw [if_neg (by omega)]
    have he' : ¬ ((e : Int) = 0) := by omega
    replace H1 := Lib.hid H1
    clear hl hb ht he
    go_enter Tryz.func60, Tryz.ntmps60
    go_wp2_with fail
    refine H1.out.mono ?_
    rintro e w1 ⟨rfl, rfl⟩
    clear H1
    go_wp2
    go_ret3
    exact TabPost.none 2 (Below.refl _ _)
end Go.Proofs.YtoebeibmmclhpaaGreat

/- sym.Train. -/
namespace Go.Proofs.YtoebeibmmclhpaaGreat
open Go.RowKit Go.Maps
set_option maxRecDepth 100000
set_option maxHeartbeats 400000 in
theorem cloneStr_all (A : Option Addr) (n cap B : Nat) (t : List (List UInt8)) (w : World) (hl : t.length = n) (hn : n * 16 ≤ 140737488355328) (hb : Strs w B A t) (hB : B ≤ w.heap.size) :
    Calls Tryz.prog 107 #[.slice A n cap] w fun e w' => ∃ A' c, e = .returned (.slice A' n c) ∧ SOwn w' w.heap.size A' n c t ∧ Below w.heap.size w w' := by
  have q22 : ∀ (w : World) (a : Option Addr) (n c n' c' : Nat), (binOp .eql 49 (.slice a n c) (.slice none n' c')).run Tryz.prog w = .ok (.bool a.isNone) w := fun w a n c n' c' => Lib.run_eql_slice_nil w _ _ a n c n' c' Tryz.underlying49
  cases A with
  | none =>
    have hl0 := hb.none_
    subst hl0
    obtain rfl : 0 = n := by simpa using hl
    clear hb hl
    go_enter Tryz.func107, Tryz.ntmps107
    go_wp2
    go_ret
    exact ⟨none, 0, rfl, ROwn.nil _ _ _ _, Below.refl _ _⟩
  | some ad =>
    have Hl := Lib.hid hl; clear hl
    have hb1 : Strs (w.alloc (.cells #[] 9)) B (some ad) t := hb.below ((Below.refl _ _).alloc hB _)
    have ho1 : SOwn (w.alloc (.cells #[] 9)) w.heap.size (some ⟨w.heap.size, 0, none⟩) 0 0 [] := ROwn.made w w.heap.size #[] 0 (Nat.le_refl _) (by simp only [maxLen]; omega) rfl
    have hbel : Below w.heap.size w (w.alloc (.cells #[] 9)) := (Below.refl _ _).alloc (Nat.le_refl _) _
    clear hb
    go_enter Tryz.func107, Tryz.ntmps107
    go_wp2_with (at_builtin; refine wpList_append_row elemStr rfl (.tmp 5) (.tmp 6) rfl w.heap.size _ 0 0 [] rfl ho1 B (some ad) n cap t rfl Hl.out hb1 (by omega) (by simp only [maxLen]; omega) (by simp) ?_; intro A1 c1 w1 ho2 hg2 hat2)
    go_ret
    rw [Nat.zero_add] at ho2
    refine ⟨A1, c1, by simp, ho2, hbel.grown hg2 (by simp) ?_⟩
    intro k hk
    simp [blk] at hk
    omega
/-- what was collected: the candidates that are no longer to come -/
def Coll (P : List (List UInt8)) (left : Lit → Bool) (ss : List (List UInt8)) : Prop := ss.Nodup ∧ ∀ s, s ∈ ss ↔ (2 ≤ P.count s ∧ left (.string s) = false)
theorem coll_start {P : List (List UInt8)} {D : DataW Unit} (hD : ∀ s, SaysS .i64 D s (Sym.cnt P s)) : Coll P (Maps.has D) [] := by
  refine ⟨List.nodup_nil, fun s => ⟨(fun h => by cases h), fun ⟨h2, hf⟩ => ?_⟩⟩
  have h := hD s
  unfold Sym.cnt at h
  rw [if_pos (Sym.count_mem h2)] at h
  rw [h.1] at hf
  cases hf
theorem left_step {left : Lit → Bool} {x s : List UInt8} : (left (.string s) && !(Lit.string s).sameKey (.string x)) = false ↔ left (.string s) = false ∨ s = x := by
  by_cases e : s = x
  · subst e
    simp [Lit.sameKey]
  · rw [sameKey_ne (ne_str e)]
    simp [e]
theorem coll_more {P ss : List (List UInt8)} {left : Lit → Bool} {x : List UInt8} (h : Coll P left ss) (hx : left (.string x) = true) (h2 : 2 ≤ P.count x) : Coll P (fun z => left z && !z.sameKey (.string x)) (ss ++ [x]) := by
  refine ⟨?_, fun s => ?_⟩
  · rw [List.nodup_append]
    refine ⟨h.1, by simp, fun a ha b hb => ?_⟩
    rw [List.mem_singleton] at hb
    subst hb
    rintro rfl
    have := ((h.2 a).1 ha).2
    rw [hx] at this
    cases this
  · rw [List.mem_append, List.mem_singleton, h.2, left_step]
    constructor
    · rintro (⟨a, b⟩ | rfl)
      · exact ⟨a, .inl b⟩
      · exact ⟨h2, .inr rfl⟩
    · rintro ⟨a, b | rfl⟩
      · exact .inl ⟨a, b⟩
      · exact .inr rfl
theorem coll_same {P ss : List (List UInt8)} {left : Lit → Bool} {x : List UInt8} (h : Coll P left ss) (h2 : ¬ 2 ≤ P.count x) : Coll P (fun z => left z && !z.sameKey (.string x)) ss := by
  refine ⟨h.1, fun s => ?_⟩
  rw [h.2, left_step]
  constructor
  · rintro ⟨a, b⟩
    exact ⟨a, .inl b⟩
  · rintro ⟨a, b | rfl⟩
    · exact ⟨a, b⟩
    · exact absurd a h2
theorem coll_end {P ss : List (List UInt8)} {left : Lit → Bool} (h : Coll P left ss) (hl : ∀ kl, left kl = false) : ss.mergeSort (Sym.leP P) = Sym.srt P :=
  Sym.srt_unique h.1 fun s => by rw [h.2, hl]; simp
theorem nodup_len : ∀ {ss P : List (List UInt8)}, ss.Nodup → (∀ s ∈ ss, s ∈ P) → ss.length ≤ P.length
  | [], _, _, _ => Nat.zero_le _
  | s :: r, P, hn, hs => by
    rw [List.nodup_cons] at hn
    have hm := hs s (by simp)
    have h := nodup_len (P := P.erase s) hn.2 (fun u hu => (List.mem_erase_of_ne (fun e => hn.1 (by rw [← e]; exact hu))).2 (hs u (by simp [hu])))
    rw [List.length_erase_of_mem hm] at h
    have := List.length_pos_of_mem hm
    rw [List.length_cons]
    omega
set_option maxHeartbeats 4000000 in
theorem train_any (A : Option Addr) (n cap B : Nat) (ss : List (List UInt8)) (w : World) (hl : ss.length = n) (hn : n ≤ 140737488355328) (hs : ∀ s ∈ ss, s.length ≤ 140737488351232) (h1 : Samples w B A ss) (hB : B ≤ w.heap.size) :
    Calls Tryz.prog 73 #[.slice A n cap] w fun e w' => ∃ A' c, e = .returned (.slice A' (Sym.train (Sym.pieces ss 1024)).length c) ∧ SOwn w' w.heap.size A' (Sym.train (Sym.pieces ss 1024)).length c (Sym.train (Sym.pieces ss 1024)) ∧ Below w.heap.size w w' := by
  have HC := Lib.hid (countPieces_any A n cap B ss w hl hn hs h1 hB)
  have hPl := Sym.pieces_length ss 1024
  have hP8 := Lib.hid (Sym.pieces_len ss 1024)
  generalize Sym.pieces ss 1024 = P at *
  obtain ⟨M, hM⟩ : ∃ M, M = w.heap.size := ⟨_, rfl⟩
  rw [← hM] at HC ⊢
  have HM := Lib.hid hM
  clear hl hs h1 hM hB
  go_enter Tryz.func73, Tryz.ntmps73
  go_wp2_with fail
  refine HC.out.mono ?_
  rintro e w1 ⟨rfl, hct, hbel1⟩
  clear HC
  have hMl := StrMap.lt hct
  obtain ⟨D, hown, hD⟩ := hct
  obtain ⟨w4, hw4⟩ : ∃ w4, w4 = (w1.alloc (.cells #[.map (some M)] 125)).alloc (.cells #[.func (.func 102) #[] #[.pointer (some ⟨w1.heap.size, 0, none⟩)]] 127) := ⟨_, rfl⟩
  have hsz4 : w4.heap.size = w1.heap.size + 2 := by rw [hw4]; simp
  have hown4 : w4.ownsMap Tryz.prog 9 (plainElem Tryz.prog 3) M P.length D := by rw [hw4]; exact (hown.alloc _).alloc _
  have c3 : w4.cell? ⟨w1.heap.size, 0, none⟩ = some (.map (some M)) := by
    rw [hw4]
    refine (((Below.refl (w1.heap.size + 1) _).alloc (by simp) _).cell (p := ⟨w1.heap.size, 0, none⟩) (Nat.lt_succ_self _)).trans ?_
    rw [World.cell?_alloc_at _ _ _ _ rfl]; rfl
  have c4 : w4.cell? ⟨w1.heap.size + 1, 0, none⟩ = some (.func (.func 102) #[] #[.pointer (some ⟨w1.heap.size, 0, none⟩)]) := by
    rw [hw4]
    rw [World.cell?_alloc_at _ _ _ _ (by simp)]; rfl
  have hbel4 : Below M w w4 := by rw [hw4]; exact (hbel1.alloc (by omega) _).alloc (by simp; omega) _
  go_wp2_with (at_range; rw [← hw4]; refine wpList_range_own _ rfl _ 125 rfl 9 3 strLaw Tryz.underlying125 _ M P.length _ rfl hown4 ?_; intro w0 hrg0 hg0 hs0; go_frame)
  obtain ⟨g, hg⟩ : ∃ g, g = w1.heap.size := ⟨_, rfl⟩
  obtain ⟨R, hR⟩ : ∃ R, R = w4.heap.size := ⟨_, rfl⟩
  rw [← hg] at c3 c4 hsz4 hMl ⊢
  rw [← hR] at hrg0 hs0 hsz4 ⊢
  have HR := Lib.hid hR
  have HG := Lib.hid hsz4
  have hR2 : R ≤ g + 2 := by omega
  have hR3 : g + 2 ≤ R := by omega
  have hsz0 : g + 2 ≤ w0.heap.size := by omega
  have hbw0 : Below (g + 2) w4 w0 := (Below.refl _ w4).grown hg0 (by omega) (fun j hj => by cases hj)
  clear hw4 hown hg hR hsz4 hown4 hs0 hbel1
  go_loopw [5] (fun v wr => ∃ (left : Lit → Bool) (cnt : Nat) (ts : List (List UInt8)) (Av : Option Addr) (cv : Nat), v = .slice Av ts.length cv ∧ SOwn wr (g + 2) Av ts.length cv ts ∧ wr.ranges Tryz.prog 9 (plainElem Tryz.prog 3) M R P.length D left cnt ∧ Coll P left ts ∧ Below (g + 2) w4 wr ∧ g + 2 ≤ wr.heap.size) (fun _ wr => wr.rangeLeft M R)
  case atStart => exact ⟨_, _, [], none, 0, rfl, ROwn.nil _ _ _ _, hrg0, coll_start hD, hbw0, hsz0⟩
  case round =>
    clear hrg0 hbw0 hsz0
    obtain ⟨left, cnt, ts, Av, cv, rfl, hown, hrg, hC, hbel, hszr⟩ := hrel
    have htP : ∀ s ∈ ts, s ∈ P := fun s hs => Sym.count_mem ((hC.2 s).1 hs).1
    have htl := nodup_len hC.1 htP
    have HtP := Lib.hid htP
    clear htP
    go_wp2_with (at_next; refine wpList_next_ranges _ rfl _ rfl 9 strLaw (plainElem Tryz.prog 3) sval (Value.int .i64) (fun key kl hk => by obtain ⟨x, hx, _⟩ := Maps.keyOf_str Tryz.underlying9 hk; exact ⟨x, hx⟩) (fun v y hv => by obtain ⟨c, rfl, _⟩ := plainElem_int_inv Tryz.underlying3 hv; exact ⟨c, rfl⟩) M R P.length _ _ _ rfl hrg ?_ ?_)
    · intro hc0 hl0
      have d3 := (hbel.cell (p := ⟨g, 0, none⟩) (by simp)).trans c3
      have d4 := (hbel.cell (p := ⟨g + 1, 0, none⟩) (by simp)).trans c4
      have HS := sortFunc_any Av ts.length cv (g + 2) (g + 1) g M P ts wr hown (by omega) (by omega) (by omega) (by omega) (fun s hs => (hP8.out s (HtP.out s hs)).2) (by omega) hszr d4 d3 ⟨D, hrg.owns, hD⟩
      rw [coll_end hC hl0] at HS
      replace HS := Lib.hid HS
      have hsl : (Sym.srt P).length = ts.length := by rw [← coll_end hC hl0, List.length_mergeSort]
      have hcap := hown.cap
      have hlow := fun j (hj : blk Av = some j) => (hown.lt hj).1
      obtain ⟨k, hk⟩ : ∃ k, k = ts.length := ⟨_, rfl⟩
      rw [← hk] at HS hcap htl hsl ⊢
      obtain ⟨mm, hmm⟩ : ∃ mm, mm = min k 32 := ⟨_, rfl⟩
      have htr : (Sym.srt P).take mm = Sym.train P := by
        unfold Sym.train
        by_cases h : k ≤ 32
        · rw [List.take_of_length_le (by omega), List.take_of_length_le (by omega)]
        · rw [show mm = 32 from by omega]
      have htrl : (Sym.train P).length = mm := by rw [← htr, List.length_take]; omega
      have Htr := Lib.hid htr
      have Htrl := Lib.hid htrl
      have hmin : min (k : Int) 32 = (mm : Int) := by omega
      have hcut := run_cutStr_h Av k cv mm (by omega)
      have HK := fun (w5 : World) (h5 : SOwn w5 (g + 2) Av k cv (Sym.srt P)) => cloneStr_all Av mm cv w5.heap.size (Sym.train P) w5 htrl (by omega) (by rw [← htr]; exact h5.row.take mm) (Nat.le_refl _)
      replace HK := Lib.hid HK
      have hfar : ∀ j, blk Av = some j → g + 2 ≤ j := fun j hj => hlow j hj
      have Hfar := Lib.hid hfar
      clear hmm hk htr htrl hsl hlow hfar hC hown hrg c3 c4 d3 d4 hc0 hl0
      go_wp2_with fail
      refine HS.out.mono ?_
      rintro e w5 ⟨rfl, ho5, hg5⟩
      have hbel5 : Below (g + 2) w4 w5 := hbel.grown hg5 hszr (fun j hj => Hfar.out j hj)
      go_wp2_with fail
      refine (HK.out w5 ho5).mono ?_
      rintro e w6 ⟨A6, c6, rfl, ho6, hb6⟩
      have hsz5 : g + 2 ≤ w5.heap.size := Nat.le_trans hszr hg5.size
      have hbel6 : Below M w w6 := (hbel4.trans (hbel5.mono (by omega))).trans (hb6.mono (by omega))
      have ho6' := ho6.low (b' := M) (by omega)
      clear HS HK ho5 hg5 hb6 ho6 hcut
      go_wp2
      go_ret
      exact ⟨A6, c6, by rw [Htrl.out]; rfl, by rw [Htrl.out]; exact ho6', hbel6⟩
    · intro x c kl yd yp w2 cnt2 hkey hlk hv hat hrg2 hlt hg2 hs2 hen
      obtain ⟨x', ex, rfl, hxm⟩ := Maps.keyOf_str Tryz.underlying9 hkey
      obtain rfl : x = x' := encStr_inj ex
      clear ex hkey hxm hs2
      obtain ⟨c', hc', hyd, _⟩ := plainElem_int_inv Tryz.underlying3 hv
      injection hc' with _ hc'
      subst hc'
      have hxP : x ∈ P := by
        rcases Classical.em (x ∈ P) with h | h
        · exact h
        · have h1 := hD x
          unfold Sym.cnt at h1
          rw [if_neg h] at h1
          have h2 : Maps.has D (.string x) = true := has_true_of_atKey hat
          rw [h1] at h2
          cases h2
      have hcx : c = (P.count x : Int) := by
        have h1 := hD x
        unfold Sym.cnt at h1
        rw [if_pos hxP] at h1
        have h2 := h1.2
        rw [hat] at h2
        have h3 := congrArg Prod.fst hyd
        simp only at h3 h2
        rw [h3] at h2
        injection h2 with h2
        injection h2
      have hx8 := (hP8.out x hxP).2
      have hne : blk Av = none ∨ blk Av ≠ some R := .inr (fun h => row_ne_iter hown hrg (by rw [ownBlock_eq]; exact h.symm))
      have hown2 : SOwn w2 (g + 2) Av ts.length cv ts := hown.kept hg2 hne
      have hbel2 : Below (g + 2) w4 w2 := hbel.grown hg2 hszr (fun j hj => by cases hj; exact hR3)
      have hsz2 : g + 2 ≤ w2.heap.size := Nat.le_trans hszr hg2.size
      have Hme := Lib.hid (show wr.rangeLeft M R = cnt from hrg.left_eq)
      have Hlk := Lib.hid hlk
      have HC2 := Lib.hid hC
      clear hv hyd hat hlk hown hrg hC hg2 hne hbel
      simp only [sval] at hen ⊢
      by_cases hc2 : 2 ≤ P.count x
      · have hcc : (2 : Int) ≤ c := by omega
        have HN := Lib.hid (coll_more HC2.out Hlk.out hc2)
        have hone := (own_str w2 x).row
        have hoa := hown2.alloc (.cells #[.string ⟨x.toArray⟩] 9)
        have hba : Below (g + 2) w4 (w2.alloc (.cells #[.string ⟨x.toArray⟩] 9)) := hbel2.alloc hsz2 _
        have hra := hrg2.alloc (.cells #[.string ⟨x.toArray⟩] 9)
        have hsza : g + 2 ≤ (w2.alloc (.cells #[.string ⟨x.toArray⟩] 9)).heap.size := by simp; omega
        have Hcx := Lib.hid hcx
        clear hcx hown2 hbel2 hrg2 hc2
        go_wp2_with (at_builtin; refine wpList_append_row elemStr rfl (.tmp 21) (.tmp 23) rfl (g + 2) Av ts.length cv ts rfl hoa _ _ 1 1 [x] rfl rfl hone (by omega) (by simp only [maxLen]; omega) hsza ?_; intro A5 c5 w5 ho5 hg5 hat5; go_frame)
        have hneR : some R ≠ blk Av := fun h => row_ne_iter hoa hra (by rw [ownBlock_eq]; exact h)
        have hneM : some M ≠ blk Av := fun h => by have := (hoa.lt h.symm).1; omega
        have hrg5 := hra.kept hg5 hneM hneR
        have hbel5 : Below (g + 2) w4 w5 := hba.grown hg5 hsza (fun j hj => (hoa.lt hj).1)
        have hsz5 : g + 2 ≤ w5.heap.size := Nat.le_trans hsza hg5.size
        have Hl5 := Lib.hid (show (ts ++ [x]).length = ts.length + 1 from by simp)
        clear hg5 hat5 hoa hone hba hra hneR hneM hen
        go_roundw
        case rel => exact ⟨_, cnt2, ts ++ [x], A5, c5, by rw [Hl5.out], by rw [Hl5.out]; exact ho5, hrg5, HN.out, hbel5, hsz5⟩
        case measure => rw [hrg5.left_eq, Hme.out]; exact hlt
      · have hcc : ¬ ((2 : Int) ≤ c) := by omega
        have HN := Lib.hid (coll_same (x := x) HC2.out hc2)
        have Hcx := Lib.hid hcx
        clear hcx hc2
        go_wp2
        go_roundw
        case rel => exact ⟨_, cnt2, ts, Av, cv, rfl, hown2, hrg2, HN.out, hbel2, hsz2⟩
        case measure => rw [hrg2.left_eq, Hme.out]; exact hlt
end Go.Proofs.YtoebeibmmclhpaaGreat

/- sym.codesOf: the codes of a table's symbols. -/
namespace Go.Proofs.YtoebeibmmclhpaaGreat
open Go.RowKit Go.Maps
set_option maxRecDepth 100000
theorem zeroU8 (w : World) : (zeroValue 5).run Tryz.prog w = .ok (.int .u8 0) w := by kernel_rfl
namespace Sym
/-- the code of a string among the first k symbols -/
def codeIn (t : List (List UInt8)) (k : Nat) (s : List UInt8) : Option Int := if s ∈ t.take k then some (t.idxOf s : Int) else none
theorem codeIn_zero (t : List (List UInt8)) : codeIn t 0 = fun _ => none := by funext s; simp [codeIn]
theorem idxOf_at {t : List (List UInt8)} (hd : t.Nodup) {k : Nat} (hk : k < t.length) : t.idxOf t[k] = k := hd.idxOf_getElem k hk
theorem codeIn_step {t : List (List UInt8)} (hd : t.Nodup) {k : Nat} (hk : k < t.length) : (fun s' => if s' = t[k] then some (k : Int) else codeIn t k s') = codeIn t (k + 1) := by
  funext s
  unfold codeIn
  rw [List.take_succ_eq_append_getElem hk]
  by_cases h : s = t[k]
  · subst h
    rw [if_pos rfl, if_pos (List.mem_append.2 (.inr (List.mem_singleton.2 rfl))), idxOf_at hd hk]
  · rw [if_neg h]
    have : s ∈ t.take k ++ [t[k]] ↔ s ∈ t.take k := ⟨fun hm => (List.mem_append.1 hm).resolve_right (fun e => h (List.mem_singleton.1 e)), fun hm => List.mem_append.2 (.inl hm)⟩
    by_cases hm : s ∈ t.take k
    · rw [if_pos hm, if_pos (this.2 hm)]
    · rw [if_neg hm, if_neg (fun h => hm (this.1 h))]
theorem codeIn_all {t : List (List UInt8)} {s : List UInt8} : codeIn t t.length s = if s ∈ t then some (t.idxOf s : Int) else none := by unfold codeIn; rw [List.take_length]
end Sym
/-- block M knows the codes of the table t -/
def Codes (w : World) (M : Nat) (t : List (List UInt8)) : Prop := StrMap .u8 5 w M t.length (Sym.codeIn t t.length)
set_option maxHeartbeats 1000000 in
theorem codesOf_any (A : Option Addr) (n cap B : Nat) (t : List (List UInt8)) (w : World) (hl : t.length = n) (hf : Sym.Formed t) (h1 : Strs w B A t) (hB : B ≤ w.heap.size) :
    Calls Tryz.prog 108 #[.slice A n cap] w fun e w' => e = .returned (.map (some w.heap.size)) ∧ Codes w' w.heap.size t ∧ Below w.heap.size w w' := by
  have hn : n ≤ 32 := by rw [← hl]; exact hf.1
  have Hl := Lib.hid hl; clear hl
  have Hf := Lib.hid hf; clear hf
  have hmm := @run_makeMap Tryz.prog
  go_enter Tryz.func108, Tryz.ntmps108
  go_wp2
  go_loopw [9] (fun i wr => ∃ k : Nat, k ≤ n ∧ i = .int .i64 k ∧ StrMap .u8 5 wr w.heap.size k (Sym.codeIn t k) ∧ Below w.heap.size w wr) (fun i _ => n - (intOf i).toNat)
  case atStart => exact ⟨0, Nat.zero_le _, rfl, by rw [Sym.codeIn_zero]; exact StrMap.made _ _ _, (Below.refl _ _).alloc (Nat.le_refl _) _⟩
  case round =>
    obtain ⟨k, hk, rfl, hm, hbel⟩ := hrel
    by_cases hlt : k < n
    · have hk' : k < t.length := by have := Hl.out; omega
      have h1r := h1.below (hbel.mono hB)
      obtain ⟨ad1, rfl, _, hc1⟩ := h1r.get hk'
      have h8 := (Hf.out.2.1 _ (List.getElem_mem hk')).2
      have HS := Lib.hid (Sym.codeIn_step Hf.out.2.2 hk')
      obtain ⟨w1, hrun, hm1, hg1⟩ := run_put_strmap hm Tryz.underlying131 Tryz.underlying5 (by unfold maxLen; omega) (s := t[k]) (by unfold maxLen; omega) (v := (k : Int)) (WalkArith.wf_u8 (by omega))
      rw [HS.out] at hm1
      have hbel1 := hbel.grown hg1 hbel.size (fun j hj => by cases hj; exact Nat.le_refl _)
      simp only [sval] at hc1
      generalize t[k] = x at *
      clear hm hg1 h1r HS
      have hkk : ((k : Int) % 256) = (k : Int) := by omega
      have i1 : (k : Int) < (n : Int) := by omega
      go_wp2
      go_roundw
      case rel => exact ⟨k + 1, by omega, by go_num, hm1, hbel1⟩
      case measure => simp [intOf]; omega
    · obtain rfl : k = n := by omega
      have HC : Hid (Codes wr w.heap.size t) := Lib.hid (by unfold Codes; rw [Hl.out]; exact hm)
      clear hm
      go_wp2
      go_ret
      exact ⟨rfl, HC.out, hbel⟩
end Go.Proofs.YtoebeibmmclhpaaGreat

/- sym.Encode. -/
namespace Go.Proofs.YtoebeibmmclhpaaGreat
open Go.RowKit Go.Maps
set_option maxRecDepth 100000
/-- what a call leaves that returns bytes of its own and an error -/
def PairPost (w : World) (r : List UInt8 × Nat) (e : Ending) (w' : World) : Prop :=
  ∃ A c, e = .returned (.tuple #[.slice A r.1.length c, .int .i64 (r.2 : Int)]) ∧ Own w' w.heap.size A r.1.length c r.1 ∧ Below w.heap.size w w'
theorem PairPost.none {w w' : World} (e : Nat) (hb : Below w.heap.size w w') : PairPost w ([], e) (.returned (.tuple #[.slice none 0 0, .int .i64 (e : Int)])) w' := ⟨.none, 0, rfl, own_none _ _, hb⟩
/-- how long a slice is -/
def lenOf : Value → Nat
  | .slice _ n _ => n
  | _ => 0
theorem grown_of_drew {w w' : World} {row : Option Nat} (h : w.drew.grownBy w' row) : w.grownBy w' row := ⟨h.os, h.tape, h.output, h.size, h.block⟩
namespace Sym
/-- no symbol longer than j begins b -/
def Above (t : List (List UInt8)) (b : List UInt8) (j : Nat) : Prop := ∀ s ∈ t, s <+: b → s.length ≤ j
theorem above_first {t : List (List UInt8)} {b : List UInt8} (ht : Formed t) : Above t b (min b.length 8) := fun s hs hp => by
  have := hp.length_le
  have := (ht.2.1 s hs).2
  omega
theorem above_found {t : List (List UInt8)} {b : List UInt8} {j : Nat} (ha : Above t b j) (hj : j ≤ b.length) (hm : b.take j ∈ t) (ht : Formed t) : longest t b = some (t.idxOf (b.take j)) ∧ t.getD (t.idxOf (b.take j)) [] = b.take j := by
  have hk := List.idxOf_lt_length_of_mem hm
  have e : t[t.idxOf (b.take j)] = b.take j := List.getElem_idxOf hk
  refine ⟨longest_eq ht.2.2 ⟨hk, by rw [e]; exact List.take_prefix _ _, fun s hs hp => ?_⟩, by rw [getD_eq hk]; exact e⟩
  have hl : (b.take j).length = j := by simp; omega
  rw [e, hl]
  exact ha s hs hp
theorem above_step {t : List (List UInt8)} {b : List UInt8} {j : Nat} (ha : Above t b (j + 1)) (hm : b.take (j + 1) ∉ t) : Above t b j := fun s hs hp => by
  have := ha s hs hp
  rcases Nat.lt_or_ge j s.length with h | h
  · have e : s = b.take (j + 1) := by
      have e := List.prefix_iff_eq_take.1 hp
      rwa [show s.length = j + 1 from by omega] at e
    exact absurd (e ▸ hs) hm
  · exact h
theorem above_none {t : List (List UInt8)} {b : List UInt8} {j : Nat} (ha : Above t b j) (hj : j < 2) (ht : Formed t) : longest t b = none :=
  longest_eq ht.2.2 (fun s hs hp => by
    have := ha s hs hp
    have := (ht.2.1 s hs).1
    omega)
end Sym
set_option maxHeartbeats 4000000 in
theorem encode_any (A Ab : Option Addr) (n m cap capb B : Nat) (t : List (List UInt8)) (b : List UInt8) (w : World) (hl : t.length = n) (hcap : n ≤ cap) (hn : n ≤ 140737488355328) (hlb : b.length = m) (hcapb : m ≤ capb) (hm : m ≤ 70368744177664)
    (h1 : Strs w B A t) (hs : ∀ s ∈ t, s.length ≤ maxLen) (hb : Bytes w B Ab b) (hB : B ≤ w.heap.size) :
    Calls Tryz.prog 75 #[.slice A n cap, .slice Ab m capb] w (PairPost w (Sym.encoded t b)) := by
  have HF := formed_any A n cap B t w hl hcap hn h1 hs
  unfold Sym.encoded
  by_cases hf : Sym.Formed t
  · rw [Sym.formed_iff.2 hf] at HF
    rw [if_pos hf]
    replace HF := Lib.hid HF
    have HC := Lib.hid (codesOf_any A n cap B t w hl hf h1 hB)
    obtain ⟨M, hM⟩ : ∃ M, M = w.heap.size := ⟨_, rfl⟩
    rw [← hM] at HC
    have HM := Lib.hid hM
    have Hf := Lib.hid hf
    have hb' := hb.wide hB
    clear hl h1 hs hf hM hb
    go_enter Tryz.func75, Tryz.ntmps75
    go_wp2
    go_step3
    go_wp2_with fail
    refine HF.out.mono ?_
    rintro e w' ⟨rfl, rfl⟩
    clear HF
    go_wp2_with fail
    refine HC.out.mono ?_
    rintro e w1 ⟨rfl, hc1, hbel1⟩
    clear HC
    have hlt1 := hc1.lt
    have hb1 : Bytes w1 M Ab b := by rw [HM.out]; exact hb'.below (by rw [← HM.out]; exact hbel1)
    clear hb'
    go_wp2
    go_step3
    go_wp2
    go_loopg [1, 7] m (fun g bv ov wx => ∃ A1 c1 rest A2 c2 o, bv = .slice A1 g c1 ∧ rest.length = g ∧ g ≤ c1 ∧ Bytes wx M A1 rest ∧ ov = .slice A2 o.length c2 ∧ Own wx (M + 1) A2 o.length c2 o ∧ o ++ Sym.encode t rest = Sym.encode t b ∧ o.length + 2 * g ≤ 2 * m ∧ Codes wx M t ∧ Below M w wx ∧ M + 1 ≤ wx.heap.size)
    case atStart => exact ⟨Ab, capb, b, none, 0, [], rfl, hlb, hcapb, hb1, rfl, own_none _ _, rfl, by simp, hc1, hbel1, hlt1⟩
    case round =>
      obtain ⟨A1, c1, rest, A2, c2, o, rfl, hrl, hc1', hbr, rfl, hown, henc, hsz, hcd, hbel, hM1⟩ := hrel
      clear hb1 hc1 hbel1 hlt1
      obtain ⟨G, rfl⟩ : ∃ G, G = gk := ⟨_, rfl⟩
      obtain ⟨wx, rfl⟩ : ∃ wx, wx = wr := ⟨_, rfl⟩
      have HENC := Lib.hid henc; clear henc
      have HRL := Lib.hid hrl; clear hrl
      by_cases hg0 : G = 0
      · have hg1 : ¬ ((0 : Int) < (G : Int)) := by omega
        have HE : Hid (Sym.encode t b = o) := by
          have hr : rest = [] := List.eq_nil_of_length_eq_zero (HRL.out.trans hg0)
          have := HENC.out
          rw [hr, Sym.encode_nil, List.append_nil] at this
          exact Lib.hid this.symm
        have HB : Hid (Below w.heap.size w wx) := Lib.hid (by rw [← HM.out]; exact hbel)
        have HO : Hid (Own wx w.heap.size A2 o.length c2 o) := Lib.hid (hown.low (by rw [← HM.out]; omega))
        clear HENC HRL hbr hcd hbel hown
        go_wp2
        try rw [Exit.noGoto_ret]
        go_ret2
        exact ⟨A2, c2, by rw [HE.out]; rfl, by rw [HE.out]; exact HO.out, HB.out⟩
      · have hg1 : (0 : Int) < (G : Int) := by omega
        by_cases h8 : (G : Int) ≤ 8
        all_goals
          go_wp2
          go_loopg [1, 7, 8] (min G 8) (fun j bv ov i wy => bv = .slice A1 G c1 ∧ ov = .slice A2 o.length c2 ∧ i = .int .i64 (j : Int) ∧ j ≤ min G 8 ∧ Sym.Above t rest j ∧ wx = wy)
          case atStart => exact ⟨rfl, rfl, congrArg (Value.int IntKind.i64) (by omega), Nat.le_refl _, by have := Sym.above_first (b := rest) Hf.out; rwa [HRL.out] at this, rfl⟩
          case round =>
            obtain ⟨rfl, rfl, rfl, hj, hab, rfl⟩ := hrel
            obtain ⟨j, rfl⟩ : ∃ j, j = gk := ⟨_, rfl⟩
            by_cases hj2 : 2 ≤ j
            · have hj2' : (2 : Int) ≤ (j : Int) := by omega
              have hjr : j ≤ rest.length := by rw [HRL.out]; omega
              have htl : (rest.take j).length = j := by simp; omega
              have hcut := run_cut_h A1 G c1 j (by omega)
              have hcv := run_string_of (hbr.take j) c1
              rw [htl] at hcv
              have hlook := run_look_strmap hcd Tryz.underlying131 Tryz.underlying5 zeroU8 (s := rest.take j) (by unfold maxLen; omega)
              rw [Sym.codeIn_all] at hlook
              by_cases hmem : rest.take j ∈ t
              · obtain ⟨hlong, hgd⟩ := Sym.above_found hab hjr hmem Hf.out
                have hk32 : t.idxOf (rest.take j) < 32 := Nat.lt_of_lt_of_le (List.idxOf_lt_length_of_mem hmem) Hf.out.1
                have HEN := Lib.hid (Sym.encode_some hlong (by rw [hgd, htl]; omega))
                rw [hgd, htl] at HEN
                rw [if_pos hmem] at hlook
                simp only [Option.getD_some, Option.isSome_some] at hlook
                have hrest := hbr.cut (k := j) (cap := c1) hjr (by rw [HRL.out]; exact hc1')
                have HRL2 : Hid ((rest.drop j).length = G - j) := Lib.hid (by rw [List.length_drop, HRL.out])
                have hsl := run_cut_from A1 G c1 j (G - j) (by omega)
                generalize t.idxOf (rest.take j) = k at *
                generalize rest.take j = s at *
                have hone := own_byte wx (UInt8.ofNat k) (k : Int) (bval_lt (by omega))
                have hob := hone.bytes
                have hoa := hown.alloc (.cells #[.int .u8 (k : Int)] 5)
                have hba : Below M w (wx.alloc (.cells #[.int .u8 (k : Int)] 5)) := hbel.alloc (by omega) _
                have hsza : M + 1 ≤ (wx.alloc (.cells #[.int .u8 (k : Int)] 5)).heap.size := by simp; omega
                have hda : Codes (wx.alloc (.cells #[.int .u8 (k : Int)] 5)) M t := StrMap.kept hcd (World.grownBy_alloc _ _ none) (by simp)
                have hra : Bytes (wx.alloc (.cells #[.int .u8 (k : Int)] 5)) M (cutAt A1 c1 j) (rest.drop j) := hrest.below ((Below.refl M wx).alloc (by omega) _)
                generalize rest.drop j = rest2 at *
                have Htl := Lib.hid htl
                clear hlong hgd hone hmem hjr htl hrest
                go_wp2_with fail
                go_region_held3 (fun _ => True) (trivial) (first | (refine step_append_bytes (by rfl) (.tmp 36) (.tmp 38) (by rfl) (M + 1) A2 o.length c2 o (by rfl) (by exact hoa) _ _ 1 1 [UInt8.ofNat k] (by rfl) rfl (by exact hob) (by omega) (by exact hsza) ?_; intro A5 c5 w5 ho5 hg5 hat5))
                have hb5 : Below M w w5 := (hba.drew).grown (by exact hg5) (by exact Nat.le_trans (Nat.le_succ M) hsza) (fun q hq => Nat.le_of_succ_le (hoa.lt hq).1)
                have hr5 : Bytes w5 M (cutAt A1 c1 j) rest2 := hra.below (((Below.refl M _).drew).grown (by exact hg5) (by exact Nat.le_trans (Nat.le_succ M) hsza) (fun q hq => Nat.le_of_succ_le (hoa.lt hq).1))
                have hd5 : Codes w5 M t := StrMap.kept hda (grown_of_drew hg5) (fun h => by have := (hoa.lt h.symm).1; omega)
                have hM5 : M + 1 ≤ w5.heap.size := Nat.le_trans hsza hg5.size
                have hE5 : (o ++ [UInt8.ofNat k]) ++ Sym.encode t rest2 = Sym.encode t b := by rw [← HENC.out, HEN.out, List.append_assoc]; rfl
                have HE5 := Lib.hid hE5
                have Hl5 := Lib.hid (show (o ++ [UInt8.ofNat k]).length = o.length + 1 from by simp)
                clear hE5 hba hra hda hoa hob hg5 hat5 hsl hlook hcv hcut
                go_wp2
                go_roundg (G - j)
                case measure => omega
                case rel => exact ⟨cutAt A1 c1 j, c1 - j, rest2, A5, c5, o ++ [UInt8.ofNat k], rfl, HRL2.out, by omega, hr5, by rw [Hl5.out], by rw [Hl5.out]; exact ho5, HE5.out, by rw [Hl5.out]; omega, hd5, hb5, hM5⟩
              · rw [if_neg hmem] at hlook
                simp only [Option.getD_none, Option.isSome_none] at hlook
                have HAB : Hid (Sym.Above t rest (j - 1)) := Lib.hid (Sym.above_step (j := j - 1) (by rwa [show j - 1 + 1 = j from by omega]) (by rwa [show j - 1 + 1 = j from by omega]))
                generalize rest.take j = s at *
                clear hmem htl
                go_wp2
                go_roundg (j - 1)
                case measure => omega
                case rel => exact ⟨rfl, rfl, congrArg (Value.int IntKind.i64) (by omega), by omega, HAB.out, rfl⟩
            · have hj2' : ¬ ((2 : Int) ≤ (j : Int)) := by omega
              have HN := Lib.hid (Sym.above_none hab (by omega) Hf.out)
              obtain ⟨x, rest2, rfl⟩ : ∃ x r, rest = x :: r := by
                cases rest with
                | nil => exact absurd HRL.out.symm hg0
                | cons x r => exact ⟨x, r, rfl⟩
              have HEN := Lib.hid (Sym.encode_none HN.out)
              obtain ⟨ad, rfl, hblk, hcell⟩ := hbr.get (k := 0) (by simp)
              simp only [List.getElem_cons_zero] at hcell
              rw [show ad.add 0 = ad from by simp [Addr.add]] at hcell
              have hrest := hbr.cut (k := 1) (cap := c1) (by simp) (by rw [HRL.out]; exact hc1')
              rw [show (x :: rest2).drop 1 = rest2 from rfl] at hrest
              have HRL2 : Hid (rest2.length = G - 1) := Lib.hid (by have := HRL.out; simp at this; omega)
              have hsl : ∀ W : World, (Instr.slice 22 (.slice (some ad) G c1) (some (.int .i64 (1 : Int))) none none).run Tryz.prog W = .ok (.slice (cutAt (some ad) c1 1) (G - 1) (c1 - 1)) W := run_cut_from (some ad) G c1 1 (G - 1) (by omega)
              have hone := own_byte2 wx 255 x 255 (x.toNat : Int) rfl rfl
              have hob := hone.bytes
              have hoa := hown.alloc (.cells #[.int .u8 255, .int .u8 (x.toNat : Int)] 5)
              have hba : Below M w (wx.alloc (.cells #[.int .u8 255, .int .u8 (x.toNat : Int)] 5)) := hbel.alloc (by omega) _
              have hsza : M + 1 ≤ (wx.alloc (.cells #[.int .u8 255, .int .u8 (x.toNat : Int)] 5)).heap.size := by simp; omega
              have hda : Codes (wx.alloc (.cells #[.int .u8 255, .int .u8 (x.toNat : Int)] 5)) M t := StrMap.kept hcd (World.grownBy_alloc _ _ none) (by simp)
              have hra : Bytes (wx.alloc (.cells #[.int .u8 255, .int .u8 (x.toNat : Int)] 5)) M (cutAt (some ad) c1 1) rest2 := hrest.below ((Below.refl M wx).alloc (by omega) _)
              have hca : (wx.alloc (.cells #[.int .u8 255, .int .u8 (x.toNat : Int)] 5)).cell? ad = some (.int .u8 (x.toNat : Int)) := (((Below.refl M wx).alloc (by omega) _).cell hblk).trans hcell
              have hi0 : (0 : Int) < (G : Int) := by omega
              clear hone hrest HN hab hbr
              go_wp2_with fail
              go_region_held3 (fun w' => w'.cell? ad = some (.int .u8 (x.toNat : Int))) (first | exact hcell | exact hca | exact (((Below.refl M _).grown (grown_of_drew hg5) (by exact Nat.le_trans (Nat.le_succ M) hsza) (fun q hq => Nat.le_of_succ_le (hoa.lt hq).1)).cell hblk).trans hca) (first | (refine step_append_bytes (by rfl) (.tmp 43) (.tmp 47) (by rfl) (M + 1) A2 o.length c2 o (by rfl) (by exact hoa) _ _ 2 2 [255, x] (by rfl) rfl (by exact hob) (by omega) (by exact hsza) ?_; intro A5 c5 w5 ho5 hg5 hat5))
              have hb5 : Below M w w5 := (hba.drew).grown (by exact hg5) (by exact Nat.le_trans (Nat.le_succ M) hsza) (fun q hq => Nat.le_of_succ_le (hoa.lt hq).1)
              have hr5 : Bytes w5 M (cutAt (some ad) c1 1) rest2 := hra.below (((Below.refl M _).drew).grown (by exact hg5) (by exact Nat.le_trans (Nat.le_succ M) hsza) (fun q hq => Nat.le_of_succ_le (hoa.lt hq).1))
              have hd5 : Codes w5 M t := StrMap.kept hda (grown_of_drew hg5) (fun h => by have := (hoa.lt h.symm).1; omega)
              have hM5 : M + 1 ≤ w5.heap.size := Nat.le_trans hsza hg5.size
              have hE5 : (o ++ [255, x]) ++ Sym.encode t rest2 = Sym.encode t b := by rw [← HENC.out, HEN.out, List.append_assoc]; rfl
              have HE5 := Lib.hid hE5
              have Hl5 := Lib.hid (show (o ++ [255, x]).length = o.length + 2 from by simp)
              clear hE5 hba hra hda hoa hob hg5 hat5 hsl hca hcell
              go_wp2
              go_roundg (G - 1)
              case measure => omega
              case rel => exact ⟨cutAt (some ad) c1 1, c1 - 1, rest2, A5, c5, o ++ [255, x], rfl, HRL2.out, by omega, hr5, by rw [Hl5.out], by rw [Hl5.out]; exact ho5, HE5.out, by rw [Hl5.out]; omega, hd5, hb5, hM5⟩
  · rw [Sym.formed_not.2 hf] at HF
    rw [if_neg hf]
    replace HF := Lib.hid HF
    clear h1 hs hl hb hf
    go_enter Tryz.func75, Tryz.ntmps75
    go_wp2
    go_step3
    go_wp2_with fail
    refine HF.out.mono ?_
    rintro e w' ⟨rfl, rfl⟩
    clear HF
    go_wp2
    rw [Exit.noGoto_ret]
    go_ret2
    exact PairPost.none 1 (Below.refl _ _)
end Go.Proofs.YtoebeibmmclhpaaGreat

/- A string made bytes. -/
namespace Go.Proofs.YtoebeibmmclhpaaGreat
open Go.RowKit
set_option maxRecDepth 100000
theorem run_bytes_of (s : List UInt8) (W : World) : ∃ c W', s.length ≤ c ∧ (convert 9 22 (.string ⟨s.toArray⟩)).run Tryz.prog W = .ok (.slice (some ⟨W.heap.size, 0, none⟩) s.length c) W' ∧
    Bytes W' W'.heap.size (some ⟨W.heap.size, 0, none⟩) s ∧ Below W.heap.size W W' := by
  have hsz : (⟨s.toArray⟩ : ByteArray).size = s.length := by rw [ByteArray.size, List.size_toArray]
  have h := run_bytes_of_string (P := Tryz.prog) W 9 22 5 ⟨s.toArray⟩ Tryz.underlying9 Tryz.underlying22 Tryz.underlying5
  rw [hsz] at h
  refine ⟨_, _, grownCap_ge W _ _ _, h, fun hn => ⟨_, rfl, by simp, fun i hi => ?_⟩, (Below.refl _ W).drew.alloc (Nat.le_refl _) _⟩
  have hc : ∀ (C : Array Value) (m : Nat × Nat), (W.drew.alloc (.cells C 5 m)).cell? ⟨W.heap.size, i, none⟩ = C[i]? := fun C m => by
    have : (W.drew.alloc (.cells C 5 m)).heap[W.heap.size]? = some (.cells C 5 m) := by
      show (W.heap.push (.cells C 5 m))[W.heap.size]? = _
      simp
    simp only [World.cell?, this]
    rfl
  rw [show (⟨W.heap.size, 0, none⟩ : Addr).add i = ⟨W.heap.size, i, none⟩ from by by_cases h : i = 0 <;> simp [Addr.add, h], hc]
  simp [bytesRow, Array.getElem?_append, hi, bval]
end Go.Proofs.YtoebeibmmclhpaaGreat

/- sym.PutTable and the document's Table. -/
namespace Go.Proofs.YtoebeibmmclhpaaGreat
open Go.RowKit
set_option maxRecDepth 100000
namespace Sym
/-- the bytes of the first k symbols -/
def part (t : List (List UInt8)) (k : Nat) : List UInt8 := Num.num t.length ++ ((t.take k).map Num.row).flatten
theorem part_zero (t : List (List UInt8)) : part t 0 = Num.num t.length := by simp [part]
theorem part_all (t : List (List UInt8)) : part t t.length = table t := by rw [part, List.take_length, table]
theorem part_step {t : List (List UInt8)} {k : Nat} (hk : k < t.length) : part t (k + 1) = part t k ++ Num.row t[k] := by
  rw [part, part, List.take_succ_eq_append_getElem hk, List.map_append, List.flatten_append, List.append_assoc]
  simp
theorem part_le {t : List (List UInt8)} (ht : Formed t) (k : Nat) : (part t k).length ≤ 553 := by
  have h1 := table_length_le ht
  have h32 := ht.1
  have : (part t k).length ≤ (table t).length := by
    rw [part, table, List.length_append, List.length_append]
    have : (t.map Num.row).flatten = ((t.take k).map Num.row).flatten ++ ((t.drop k).map Num.row).flatten := by
      rw [← List.flatten_append, ← List.map_append, List.take_append_drop]
    rw [this, List.length_append]
    omega
  omega
/-- what PutTable answers -/
def putTable (b : List UInt8) (t : List (List UInt8)) : List UInt8 × Nat := if Formed t then (b ++ table t, 0) else ([], 1)
end Sym
set_option maxHeartbeats 2000000 in
theorem putTable_any (Ab A : Option Addr) (m n capb cap B : Nat) (b : List UInt8) (t : List (List UInt8)) (w : World) (hlb : b.length = m) (hl : t.length = n) (hcap : n ≤ cap) (hn : n ≤ 140737488355328) (hm : m ≤ 140737488351232)
    (hb : Bytes w B Ab b) (h1 : Strs w B A t) (hs : ∀ s ∈ t, s.length ≤ maxLen) (hB : B ≤ w.heap.size) :
    Calls Tryz.prog 74 #[.slice Ab m capb, .slice A n cap] w (PairPost w (Sym.putTable b t)) := by
  have HF := formed_any A n cap B t w hl hcap hn h1 hs
  unfold Sym.putTable
  by_cases hf : Sym.Formed t
  · rw [Sym.formed_iff.2 hf] at HF
    rw [if_pos hf]
    replace HF := Lib.hid HF
    have hn32 : n ≤ 32 := by rw [← hl]; exact hf.1
    have HP := put_any none 0 0 w.heap.size n [] w rfl (by omega) (by omega) (Bytes.nil _ _ _) (Nat.le_refl _)
    rw [Nat.zero_add, List.nil_append, ← Num.num_length, show Num.num n = Sym.part t 0 from by rw [Sym.part_zero, hl]] at HP
    replace HP := Lib.hid HP
    have Hf := Lib.hid hf
    have Hl := Lib.hid hl
    have Hlb := Lib.hid hlb
    have h1' := h1.wide hB
    have hb' := hb.wide hB
    clear hl h1 hs hf hb hlb
    go_enter Tryz.func74, Tryz.ntmps74
    go_wp2_with fail
    refine HF.out.mono ?_
    rintro e w' ⟨rfl, rfl⟩
    clear HF
    go_wp2_with fail
    refine HP.out.mono ?_
    rintro e w1 ⟨g1, c1, rfl, ho1, hbel1⟩
    clear HP
    go_wp2
    go_loopw [6, 18] (fun ev i wr => ∃ (k g c : Nat), k ≤ n ∧ i = .int .i64 k ∧ ev = .slice (some ⟨g, 0, none⟩) (Sym.part t k).length c ∧ Own wr w.heap.size (some ⟨g, 0, none⟩) (Sym.part t k).length c (Sym.part t k) ∧ Below w.heap.size w wr) (fun _ i _ => n - (intOf i).toNat)
    case atStart => exact ⟨0, g1, c1, Nat.zero_le _, rfl, rfl, ho1, hbel1⟩
    case round =>
      clear ho1 hbel1
      obtain ⟨k, g, c, hk, rfl, rfl, hown, hbel⟩ := hrel
      have hpl := Sym.part_le Hf.out k
      by_cases hlt : k < n
      · have hk' : k < t.length := by rw [Hl.out]; exact hlt
        have h1r := h1'.below hbel
        obtain ⟨ad, rfl, _, hcell⟩ := h1r.get hk'
        have h8 := (Hf.out.2.1 _ (List.getElem_mem hk')).2
        have HS := Lib.hid (Sym.part_step hk')
        simp only [sval] at hcell
        generalize t[k] = x at *
        obtain ⟨cx, wx, hcx, hcv, hbx, hblx⟩ := run_bytes_of x wr
        have hownx := hown.below hblx
        have HR := Lib.hid (putRow_any (some ⟨g, 0, none⟩) (some ⟨wr.heap.size, 0, none⟩) (Sym.part t k).length x.length c cx wx.heap.size wx.heap.size (Sym.part t k) x wx rfl rfl (by omega) (by omega) hownx.bytes hbx (Nat.le_refl _) (Nat.le_refl _))
        rw [← Num.row_length, ← List.length_append, ← HS.out] at HR
        have i1 : (k : Int) < (n : Int) := by omega
        have hszw := hbel.size
        generalize Sym.part t k = P at *
        clear h1r hownx hbx HS hown
        go_wp2_with fail
        refine HR.out.mono ?_
        rintro e w2 ⟨g2, c2, rfl, ho2, hb2⟩
        clear HR
        have hbel2 : Below w.heap.size w w2 := (hbel.trans (hblx.mono hszw)).trans (hb2.mono (Nat.le_trans hszw hblx.size))
        have ho2' := ho2.low (Nat.le_trans hszw hblx.size)
        clear hcv hb2 ho2 hblx
        go_wp2
        go_roundw
        case rel => exact ⟨k + 1, g2, c2, by omega, by go_num, rfl, ho2', hbel2⟩
        case measure => simp [intOf]; omega
      · obtain rfl : k = n := by omega
        have HT : Hid (Sym.part t k = Sym.table t) := Lib.hid (by have := Sym.part_all t; rwa [Hl.out] at this)
        rw [HT.out] at hown
        rw [HT.out] at hpl
        have hpos := Sym.table_pos t
        have hbr := hb'.below hbel
        have hszw := hbel.size
        have hbl2 : Below wr.heap.size wr (wr.alloc (.cells #[.slice Ab m capb, .slice (some ⟨g, 0, none⟩) (Sym.table t).length c] 22)) := (Below.refl _ _).alloc (Nat.le_refl _) _
        have hcA : (wr.alloc (.cells #[.slice Ab m capb, .slice (some ⟨g, 0, none⟩) (Sym.table t).length c] 22)).cell? ⟨wr.heap.size, 0, none⟩ = some (.slice Ab m capb) := by rw [World.cell?_alloc_at _ _ _ _ rfl]; rfl
        have hcB : (wr.alloc (.cells #[.slice Ab m capb, .slice (some ⟨g, 0, none⟩) (Sym.table t).length c] 22)).cell? ⟨wr.heap.size, 1, none⟩ = some (.slice (some ⟨g, 0, none⟩) (Sym.table t).length c) := by rw [World.cell?_alloc_at _ _ _ _ rfl]; rfl
        have H2 := concat2_any wr.heap.size m capb (Sym.table t).length c wr.heap.size Ab (some ⟨g, 0, none⟩) b (Sym.table t) _ Hlb.out rfl (by omega) (by omega) ((hbr.wide hszw).below hbl2) (hown.bytes.below hbl2) (by simp) (by simp) hcA hcB
        obtain ⟨N, hN⟩ : ∃ N, N = m + (Sym.table t).length := ⟨_, rfl⟩
        rw [← hN] at H2
        have HN : Hid (((b ++ Sym.table t, 0) : List UInt8 × Nat).1.length = N) := Lib.hid (by rw [hN, List.length_append, Hlb.out])
        replace H2 := Lib.hid H2
        clear hN
        rw [HT.out]
        generalize Sym.table t = T at *
        clear hcA hcB hbr hown HT
        go_wp2_with fail
        refine H2.out.mono ?_
        rintro e w2 ⟨g2, k2, rfl, ho2, hbel2⟩
        clear H2
        have hb3 := hbel.trans ((hbl2.trans (hbel2.mono (by simp))).mono hszw)
        have ho3 := ho2.low (b' := w.heap.size) (by simp; omega)
        clear hbl2 hbel2 ho2
        go_wp2
        go_ret2
        exact ⟨_, k2, by rw [HN.out]; rfl, by rw [HN.out]; exact ho3, hb3⟩
  · rw [Sym.formed_not.2 hf] at HF
    rw [if_neg hf]
    replace HF := Lib.hid HF
    clear h1 hs hl hb hf
    go_enter Tryz.func74, Tryz.ntmps74
    go_wp2_with fail
    refine HF.out.mono ?_
    rintro e w' ⟨rfl, rfl⟩
    clear HF
    go_wp2
    go_ret2
    exact PairPost.none 1 (Below.refl _ _)
set_option maxHeartbeats 2000000 in
theorem refTable_any (A : Option Addr) (n cap B : Nat) (t : List (List UInt8)) (w : World) (hl : t.length = n) (hf : Sym.Formed t) (h1 : Strs w B A t) (hB : B ≤ w.heap.size) :
    Calls Tryz.prog 27 #[.slice A n cap] w (MadeAt w.heap.size w (Sym.table t).length (Sym.table t)) := by
  have hn32 : n ≤ 32 := by rw [← hl]; exact hf.1
  have HP := refBytes_any n w (by omega)
  rw [← Num.num_length, show Num.num n = Sym.part t 0 from by rw [Sym.part_zero, hl]] at HP
  replace HP := Lib.hid HP
  have Hf := Lib.hid hf
  have Hl := Lib.hid hl
  have h1' := h1.wide hB
  clear hl h1 hf
  go_enter Tryz.func27, Tryz.ntmps27
  go_wp2_with fail
  refine HP.out.mono ?_
  rintro e w1 ⟨g1, c1, rfl, ho1, hbel1⟩
  clear HP
  go_wp2
  go_loopw [3, 4] (fun ev i wr => ∃ (k : Nat) (A2 : Option Addr) (c : Nat), k ≤ n ∧ i = .int .i64 k ∧ ev = .slice A2 (Sym.part t k).length c ∧ Own wr w.heap.size A2 (Sym.part t k).length c (Sym.part t k) ∧ Below w.heap.size w wr) (fun _ i _ => n - (intOf i).toNat)
  case atStart => exact ⟨0, some ⟨g1, 0, none⟩, c1, Nat.zero_le _, rfl, rfl, ho1, hbel1⟩
  case round =>
    clear ho1 hbel1
    obtain ⟨k, A2, c, hk, rfl, rfl, hown, hbel⟩ := hrel
    have hpl := Sym.part_le Hf.out k
    by_cases hlt : k < n
    · have hk' : k < t.length := by rw [Hl.out]; exact hlt
      have h1r := h1'.below hbel
      obtain ⟨ad, rfl, _, hcell⟩ := h1r.get hk'
      have h8 := (Hf.out.2.1 _ (List.getElem_mem hk')).2
      have HS := Lib.hid (Sym.part_step hk')
      simp only [sval] at hcell
      generalize t[k] = x at *
      have h9 := Num.size_le9 (v := x.length) (by omega)
      obtain ⟨cx, wx, hcx, hcv, hbx, hblx⟩ := run_bytes_of x wr
      have hownx := hown.below hblx
      have HR := refRow_any (some ⟨wr.heap.size, 0, none⟩) x.length cx wx.heap.size x wx rfl (by omega) hbx (Nat.le_refl _)
      rw [← Num.row_length] at HR
      replace HR := Lib.hid HR
      have hrl := Num.row_length x
      have i1 : (k : Int) < (n : Int) := by omega
      have hszw := hbel.size
      have HL : Hid ((Sym.part t (k + 1)).length = (Sym.part t k).length + (Num.row x).length) := Lib.hid (by rw [HS.out, List.length_append])
      generalize Sym.part t k = P at *
      have hrl17 : (Num.row x).length ≤ 17 := by omega
      generalize Num.row x = R at *
      clear h1r hbx hown hrl
      go_wp2_with fail
      refine HR.out.mono ?_
      rintro e w2 ⟨g2, c2, rfl, ho2, hb2⟩
      clear HR
      have hown2 := hownx.below hb2
      have hbel2 : Below w.heap.size w w2 := (hbel.trans (hblx.mono hszw)).trans (hb2.mono (Nat.le_trans hszw hblx.size))
      have hsz2 := hbel2.size
      have hob := ho2.bytes
      clear hcv hb2 ho2 hblx hownx
      go_wp2_with (at_builtin; refine wpList_append_bytes rfl (.tmp 15) (.tmp 21) rfl w.heap.size A2 P.length c P rfl hown2 _ _ R.length c2 R rfl rfl hob (by omega) hsz2 ?_; intro A5 c5 w5 ho5 hg5 hat5)
      have hbel5 := hbel2.grown hg5 hsz2 (fun q hq => (hown2.lt hq).1)
      clear hg5 hat5 hown2 hob
      go_roundw
      case rel => exact ⟨k + 1, A5, c5, by omega, by go_num, by rw [HL.out], by rw [HL.out, HS.out]; exact ho5, hbel5⟩
      case measure => simp [intOf]; omega
    · obtain rfl : k = n := by omega
      have HT : Hid (Sym.table t = Sym.part t k) := Lib.hid (by have := Sym.part_all t; rw [Hl.out] at this; exact this.symm)
      go_wp2
      go_ret
      exact ⟨A2, c, by rw [HT.out]; rfl, by rw [HT.out]; exact hown, hbel⟩
end Go.Proofs.YtoebeibmmclhpaaGreat

/- The document's way to the table: the best of what is left, again and again: plain. -/
namespace Go.Proofs.YtoebeibmmclhpaaGreat.Sym
/-- does a piece beat another? -/
def bt (p q : List UInt8 × Nat) : Prop := wort q < wort p ∨ (wort p = wort q ∧ p.1 < q.1)
theorem bt_trans {a b c : List UInt8 × Nat} (h1 : bt a b) (h2 : bt b c) : bt a c := by
  rcases h1 with h1 | ⟨e1, l1⟩ <;> rcases h2 with h2 | ⟨e2, l2⟩
  · exact .inl (by omega)
  · exact .inl (by omega)
  · exact .inl (by omega)
  · exact .inr ⟨by omega, List.lt_trans l1 l2⟩
theorem bt_irrefl (a : List UInt8 × Nat) : ¬ bt a a := by
  rintro (h | ⟨_, h⟩)
  · omega
  · exact absurd h (List.lt_irrefl _)
/-- what is left of the pieces when those of T are taken -/
def Left (l : List (List UInt8 × Nat)) (P T : List (List UInt8)) : Prop := (l.map (·.1)).Nodup ∧ (∀ s, s ∈ l.map (·.1) ↔ s ∈ P) ∧ ∀ p ∈ l, p.2 = if p.1 ∈ T then 0 else P.count p.1
/-- the best of the first r -/
def Best (l : List (List UInt8 × Nat)) (r : Nat) (z : Int) : Prop :=
  (z = -1 ∧ ∀ i, (h : i < l.length) → i < r → l[i].2 < 2) ∨
  ∃ b, ∃ hb : b < l.length, z = (b : Int) ∧ b < r ∧ 2 ≤ l[b].2 ∧ ∀ i, (h : i < l.length) → i < r → 2 ≤ l[i].2 → ¬ bt l[i] l[b]
theorem best_zero (l : List (List UInt8 × Nat)) : Best l 0 (-1) := .inl ⟨rfl, fun _ _ h => absurd h (Nat.not_lt_zero _)⟩
/-- one that comes less than twice is passed by -/
theorem best_few {l : List (List UInt8 × Nat)} {r : Nat} {z : Int} (hr : r < l.length) (h : Best l r z) (h2 : l[r].2 < 2) : Best l (r + 1) z := by
  rcases h with ⟨rfl, h⟩ | ⟨b, hb, rfl, hbr, hb2, h⟩
  · refine .inl ⟨rfl, fun i hi hir => ?_⟩
    by_cases e : i = r
    · subst e; exact h2
    · exact h i hi (by omega)
  · refine .inr ⟨b, hb, rfl, by omega, hb2, fun i hi hir hi2 => ?_⟩
    by_cases e : i = r
    · subst e; omega
    · exact h i hi (by omega) hi2
/-- the first -/
theorem best_first {l : List (List UInt8 × Nat)} {r : Nat} (hr : r < l.length) (h : Best l r (-1)) (h2 : 2 ≤ l[r].2) : Best l (r + 1) (r : Int) := by
  rcases h with ⟨_, h⟩ | ⟨b, hb, e, _⟩
  · refine .inr ⟨r, hr, rfl, by omega, h2, fun i hi hir hi2 => ?_⟩
    by_cases e : i = r
    · subst e; exact bt_irrefl _
    · have := h i hi (by omega); omega
  · omega
/-- one that beats the best -/
theorem best_more {l : List (List UInt8 × Nat)} {r b : Nat} (hr : r < l.length) (hb : b < l.length) (h : Best l r (b : Int)) (h2 : 2 ≤ l[r].2) (hw : bt l[r] l[b]) : Best l (r + 1) (r : Int) := by
  rcases h with ⟨e, _⟩ | ⟨b', hb', e, hbr, hb2, h⟩
  · omega
  · obtain rfl : b = b' := by omega
    refine .inr ⟨r, hr, rfl, by omega, h2, fun i hi hir hi2 hbt => ?_⟩
    by_cases e : i = r
    · subst e; exact bt_irrefl _ hbt
    · exact h i hi (by omega) hi2 (bt_trans hbt hw)
/-- one that does not -/
theorem best_same {l : List (List UInt8 × Nat)} {r b : Nat} (hr : r < l.length) (hb : b < l.length) (h : Best l r (b : Int)) (hw : ¬ bt l[r] l[b]) : Best l (r + 1) (b : Int) := by
  rcases h with ⟨e, _⟩ | ⟨b', hb', e, hbr, hb2, h⟩
  · omega
  · obtain rfl : b = b' := by omega
    refine .inr ⟨b, hb, rfl, by omega, hb2, fun i hi hir hi2 => ?_⟩
    by_cases e : i = r
    · subst e; exact hw
    · exact h i hi (by omega) hi2
theorem best_is {l : List (List UInt8 × Nat)} {r : Nat} {z : Int} (h : Best l r z) : z = -1 ∨ ∃ b, b < l.length ∧ z = (b : Int) ∧ b < r := by
  rcases h with ⟨h, _⟩ | ⟨b, hb, e, hbr, _⟩
  · exact .inl h
  · exact .inr ⟨b, hb, e, hbr⟩
theorem left_times {l : List (List UInt8 × Nat)} {P T : List (List UInt8)} (h : Left l P T) {p : List UInt8 × Nat} (hp : p ∈ l) : p.2 ≤ P.length := by
  rw [h.2.2 p hp]
  split
  · exact Nat.zero_le _
  · exact List.count_le_length
theorem left_two {l : List (List UInt8 × Nat)} {P T : List (List UInt8)} (h : Left l P T) {p : List UInt8 × Nat} (hp : p ∈ l) (h2 : 2 ≤ p.2) : p.1 ∉ T ∧ p.2 = P.count p.1 := by
  have := h.2.2 p hp
  by_cases hm : p.1 ∈ T
  · rw [if_pos hm] at this; omega
  · rw [if_neg hm] at this; exact ⟨hm, this⟩
theorem left_at {l : List (List UInt8 × Nat)} {P T : List (List UInt8)} (h : Left l P T) {s : List UInt8} (h2 : 2 ≤ P.count s) (hs : s ∉ T) : ∃ i, ∃ hi : i < l.length, l[i] = (s, P.count s) := by
  obtain ⟨p, hp, rfl⟩ := List.mem_map.1 ((h.2.1 s).2 (count_mem h2))
  obtain ⟨i, hi, rfl⟩ := List.mem_iff_getElem.1 hp
  refine ⟨i, hi, ?_⟩
  have := h.2.2 _ hp
  rw [if_neg hs] at this
  rw [← this]
/-- none is left -/
theorem best_none {l : List (List UInt8 × Nat)} {P : List (List UInt8)} {k : Nat} (h : Left l P ((srt P).take k)) (hb : Best l l.length (-1)) : (srt P).length ≤ k := by
  rcases Nat.lt_or_ge k (srt P).length with hlt | hge
  · exfalso
    have hm : (srt P)[k] ∈ srt P := List.getElem_mem hlt
    have h2 := mem_srt.1 hm
    have hn : (srt P)[k] ∉ (srt P).take k := by
      intro hc
      obtain ⟨i, hi, e⟩ := List.mem_iff_getElem.1 hc
      rw [List.getElem_take] at e
      rw [List.length_take] at hi
      have := (List.getElem_inj (h₀ := by omega) (h₁ := hlt) (nodup_srt P)).1 e
      omega
    obtain ⟨i, hi, e⟩ := left_at h h2 hn
    rcases hb with ⟨_, hb⟩ | ⟨b, _, e', _⟩
    · have := hb i hi hi
      rw [e] at this
      simp only at this
      omega
    · omega
  · exact hge
/-- the best is the next in order -/
theorem best_next {l : List (List UInt8 × Nat)} {P : List (List UInt8)} {k b : Nat} (h : Left l P ((srt P).take k)) (hbl : b < l.length) (hb : Best l l.length (b : Int)) : (srt P).take (k + 1) = (srt P).take k ++ [l[b].1] ∧ 2 ≤ l[b].2 := by
  rcases hb with ⟨e, _⟩ | ⟨b', hb', e, _, hb2, hb⟩
  · omega
  · obtain rfl : b = b' := by omega
    refine ⟨?_, hb2⟩
    obtain ⟨hn, hc⟩ := left_two h (List.getElem_mem hbl) hb2
    have hm : l[b].1 ∈ srt P := mem_srt.2 (by omega)
    obtain ⟨j, hj, ej⟩ := List.mem_iff_getElem.1 hm
    have hkj : k ≤ j := by
      rcases Nat.lt_or_ge j k with hlt | hge
      · exact absurd (List.mem_iff_getElem.2 ⟨j, by rw [List.length_take]; omega, by rw [List.getElem_take]; exact ej⟩) hn
      · exact hge
    have hk : k < (srt P).length := by omega
    rw [List.take_succ_eq_append_getElem hk]
    suffices (srt P)[k] = l[b].1 by rw [this]
    rcases Nat.eq_or_lt_of_le hkj with rfl | hlt
    · exact ej
    · have h2 := mem_srt.1 (List.getElem_mem hk)
      have hn2 : (srt P)[k] ∉ (srt P).take k := by
        intro hc
        obtain ⟨i, hi, e⟩ := List.mem_iff_getElem.1 hc
        rw [List.getElem_take] at e
        rw [List.length_take] at hi
        have := (List.getElem_inj (h₀ := by omega) (h₁ := hk) (nodup_srt P)).1 e
        omega
      obtain ⟨i, hi, e⟩ := left_at h h2 hn2
      have h3 := hb i hi hi (by rw [e]; exact h2)
      have h4 := List.pairwise_iff_getElem.1 (srt_pairwise P) k j hk hj hlt
      rw [ej] at h4
      unfold leP at h4
      rw [Bool.not_eq_true'] at h4
      refine ahead_same (P := P) ?_ h4
      rw [← Bool.not_eq_true, ahead_iff]
      intro hc2
      apply h3
      rw [e]
      unfold bt wort
      simp only
      rw [hc]
      unfold val at hc2
      rcases hc2 with hc2 | ⟨hc2, hc3⟩
      · exact .inl hc2
      · exact .inr ⟨hc2.symm, hc3⟩
/-- the best is taken -/
theorem left_take {l : List (List UInt8 × Nat)} {P T : List (List UInt8)} {b : Nat} (h : Left l P T) (hb : b < l.length) : Left (l.set b (l[b].1, 0)) P (T ++ [l[b].1]) := by
  have hms : (l.set b (l[b].1, 0)).map (·.1) = l.map (·.1) := by
    apply List.ext_getElem
    · simp
    · intro i h1 h2
      simp only [List.getElem_map, List.getElem_set]
      split
      · rename_i e; subst e; rfl
      · rfl
  refine ⟨by rw [hms]; exact h.1, fun s => by rw [hms]; exact h.2.1 s, fun p hp => ?_⟩
  obtain ⟨i, hi, rfl⟩ := List.mem_iff_getElem.1 hp
  rw [List.length_set] at hi
  rw [List.getElem_set]
  by_cases hib : b = i
  · subst hib
    rw [if_pos rfl, if_pos]
    simp
  · rw [if_neg hib, h.2.2 _ (List.getElem_mem hi)]
    have hne : l[i].1 ≠ l[b].1 := by
      intro e
      have := (List.getElem_inj (h₀ := by simpa using hi) (h₁ := by simpa using hb) h.1).1 (by simpa using e)
      exact hib this.symm
    by_cases hm : l[i].1 ∈ T
    · rw [if_pos hm, if_pos (List.mem_append.2 (.inl hm))]
    · rw [if_neg hm, if_neg]
      intro hc
      rcases List.mem_append.1 hc with hc | hc
      · exact hm hc
      · exact hne (List.mem_singleton.1 hc)
theorem left_srt (l : List (List UInt8 × Nat)) (P : List (List UInt8)) (h : (l.map (·.1)).Nodup ∧ (∀ s, s ∈ l.map (·.1) ↔ s ∈ P) ∧ ∀ p ∈ l, p.2 = P.count p.1) : Left l P ((srt P).take 0) :=
  ⟨h.1, h.2.1, fun p hp => by rw [List.take_zero, if_neg List.not_mem_nil]; exact h.2.2 p hp⟩
end Go.Proofs.YtoebeibmmclhpaaGreat.Sym
