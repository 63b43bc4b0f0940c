/- Texts of several layers, one behind the other: SymOrd SymTab SymCmp SymSort StrsMore SymForm SymTake SymTrain SymCodes SymEnc StrBytes SymPut. -/
import Derived.Test.YtoebeibmmclhpaaNTA
import Derived.Test.YtoebeibmmclhpaaNTB
import Derived.Deep.QuietTactic
import Derived.BigQuiet
import Derived.Test.YtoebeibmmclhpaaSortLay
import Derived.Shelf.SlSortCmp.NoneTotal
import Derived.Laws.Slices
import Derived.Deep.LoopGhost
import Derived.Maps.RangeWalk
import Derived.Sort.KeysCollected
import Derived.Sort.OwnSorted
import Derived.Laws.EntriesVeiled
import Derived.Deep.RegionHeld3
import Derived.StillTailTactics
import Derived.WalkMore
import Derived.Laws.IdiomStrings
/- The table of pieces: the order of the candidates, the first of them: plain. -/
namespace Go.Proofs.Ytoebeibmmclhpaa.Sym
/-- what a piece is worth -/
def val (P : List (List UInt8)) (s : List UInt8) : Int := ((s.length : Int) - 1) * (P.count s : Int)
/-- does s come ahead of u? -/
def ahead (P : List (List UInt8)) (s u : List UInt8) : Bool := decide (val P u < val P s) || (decide (val P u = val P s) && decide (s < u))
theorem ahead_iff {P : List (List UInt8)} {s u : List UInt8} : ahead P s u = true ↔ val P u < val P s ∨ (val P u = val P s ∧ s < u) := by simp [ahead]
theorem ahead_not {P : List (List UInt8)} {s u : List UInt8} : ahead P s u = false ↔ val P s ≤ val P u ∧ (val P u = val P s → u ≤ s) := by
  rw [← Bool.not_eq_true, ahead_iff]
  constructor
  · intro h
    refine ⟨by omega, fun e => List.not_lt.1 fun hl => h (.inr ⟨e, hl⟩)⟩
  · rintro ⟨h1, h2⟩ (h | ⟨e, hl⟩)
    · omega
    · exact absurd hl (List.not_lt.2 (h2 e))
theorem ahead_irrefl (P : List (List UInt8)) (s : List UInt8) : ahead P s s = false := ahead_not.2 ⟨Int.le_refl _, fun _ => List.le_refl _⟩
theorem ahead_trans {P : List (List UInt8)} {a b c : List UInt8} (h1 : ahead P a b = true) (h2 : ahead P b c = true) : ahead P a c = true := by
  rw [ahead_iff] at *
  rcases h1 with h1 | ⟨e1, l1⟩ <;> rcases h2 with h2 | ⟨e2, l2⟩
  · exact .inl (by omega)
  · exact .inl (by omega)
  · exact .inl (by omega)
  · exact .inr ⟨by omega, List.lt_trans l1 l2⟩
theorem ahead_ntrans {P : List (List UInt8)} {a b c : List UInt8} (h1 : ahead P a b = false) (h2 : ahead P b c = false) : ahead P a c = false := by
  rw [ahead_not] at *
  refine ⟨by omega, fun e => ?_⟩
  have e1 : val P b = val P a := by omega
  have e2 : val P c = val P b := by omega
  exact List.le_trans (h2.2 e2) (h1.2 e1)
theorem ahead_same {P : List (List UInt8)} {a b : List UInt8} (h1 : ahead P a b = false) (h2 : ahead P b a = false) : a = b := by
  rw [ahead_not] at *
  have e : val P b = val P a := by omega
  exact List.le_antisymm (h2.2 e.symm) (h1.2 e)
/-- each once -/
def dedup : List (List UInt8) → List (List UInt8)
  | [] => []
  | s :: r => if s ∈ r then dedup r else s :: dedup r
theorem mem_dedup {s : List UInt8} : ∀ {l : List (List UInt8)}, s ∈ dedup l ↔ s ∈ l
  | [] => Iff.rfl
  | u :: r => by
    unfold dedup
    split
    · rename_i h
      rw [mem_dedup, List.mem_cons]
      exact ⟨.inr, fun h' => h'.elim (fun e => e ▸ h) id⟩
    · rw [List.mem_cons, List.mem_cons, mem_dedup]
theorem nodup_dedup : ∀ l : List (List UInt8), (dedup l).Nodup
  | [] => List.nodup_nil
  | u :: r => by
    unfold dedup
    split
    · exact nodup_dedup r
    · rename_i h
      exact List.nodup_cons.2 ⟨fun h' => h (mem_dedup.1 h'), nodup_dedup r⟩
/-- those that come twice and more -/
def cands (P : List (List UInt8)) : List (List UInt8) := (dedup P).filter fun s => decide (2 ≤ P.count s)
theorem mem_cands {P : List (List UInt8)} {s : List UInt8} : s ∈ cands P ↔ 2 ≤ P.count s := by
  unfold cands
  rw [List.mem_filter, mem_dedup, decide_eq_true_iff]
  refine ⟨fun h => h.2, fun h => ⟨?_, h⟩⟩
  rcases Classical.em (s ∈ P) with hm | hm
  · exact hm
  · rw [List.count_eq_zero_of_not_mem hm] at h; omega
theorem nodup_cands (P : List (List UInt8)) : (cands P).Nodup := (nodup_dedup P).filter _
/-- not behind -/
def leP (P : List (List UInt8)) (s u : List UInt8) : Bool := !ahead P u s
theorem leP_trans (P : List (List UInt8)) : ∀ a b c, leP P a b = true → leP P b c = true → leP P a c = true := fun a b c h1 h2 => by
  unfold leP at *
  rw [Bool.not_eq_true'] at *
  exact ahead_ntrans h2 h1
theorem leP_total (P : List (List UInt8)) : ∀ a b, (leP P a b || leP P b a) = true := fun a b => by
  unfold leP
  rcases h : ahead P b a with _ | _
  · rfl
  · rcases h2 : ahead P a b with _ | _
    · rfl
    · have := ahead_trans h h2
      rw [ahead_irrefl] at this
      cases this
/-- the candidates in their order -/
def srt (P : List (List UInt8)) : List (List UInt8) := (cands P).mergeSort (leP P)
theorem mem_srt {P : List (List UInt8)} {s : List UInt8} : s ∈ srt P ↔ 2 ≤ P.count s := by unfold srt; rw [List.mem_mergeSort, mem_cands]
theorem nodup_srt (P : List (List UInt8)) : (srt P).Nodup := (List.mergeSort_perm (cands P) (leP P)).nodup_iff.2 (nodup_cands P)
theorem srt_pairwise (P : List (List UInt8)) : (srt P).Pairwise fun a b => leP P a b = true := List.pairwise_mergeSort (leP_trans P) (leP_total P) _
/-- candidates, in whatever order they came, come to the same -/
theorem srt_unique {P l : List (List UInt8)} (hn : l.Nodup) (hm : ∀ s, s ∈ l ↔ 2 ≤ P.count s) : l.mergeSort (leP P) = srt P := by
  have hp : l.Perm (cands P) := (List.perm_ext_iff_of_nodup hn (nodup_cands P)).2 fun s => by rw [hm, mem_cands]
  refine List.Perm.eq_of_pairwise (le := fun a b => leP P a b = true) (fun a b _ _ h1 h2 => ?_) (List.pairwise_mergeSort (leP_trans P) (leP_total P) l) (srt_pairwise P) (((List.mergeSort_perm l (leP P)).trans hp).trans (List.mergeSort_perm (cands P) (leP P)).symm)
  unfold leP at h1 h2
  rw [Bool.not_eq_true'] at h1 h2
  exact ahead_same h2 h1
/-- the table -/
def train (P : List (List UInt8)) : List (List UInt8) := (srt P).take 32
theorem train_formed {P : List (List UInt8)} (h : ∀ p ∈ P, 2 ≤ p.length ∧ p.length ≤ 8) : Formed (train P) := by
  refine ⟨by unfold train; rw [List.length_take]; omega, fun s hs => ?_, (nodup_srt P).sublist (List.take_sublist _ _)⟩
  have h2 := mem_srt.1 (List.mem_of_mem_take hs)
  refine h s ?_
  rcases Classical.em (s ∈ P) with hm | hm
  · exact hm
  · rw [List.count_eq_zero_of_not_mem hm] at h2; omega
theorem count_mem {P : List (List UInt8)} {s : List UInt8} (h : 2 ≤ P.count s) : s ∈ P := by
  rcases Classical.em (s ∈ P) with hm | hm
  · exact hm
  · rw [List.count_eq_zero_of_not_mem hm] at h; omega
end Go.Proofs.Ytoebeibmmclhpaa.Sym

/- A table's bytes, and the table that bytes begin with: plain. -/
namespace Go.Proofs.Ytoebeibmmclhpaa.Sym
/-- a table's bytes -/
def table (t : List (List UInt8)) : List UInt8 := Num.num t.length ++ (t.map Num.row).flatten
/-- so many rows of b from a place on, behind those that there are: these, and where one stands then -/
def rows (b : List UInt8) : Nat → List (List UInt8) → Nat → Option (List (List UInt8) × Nat)
  | 0, t, at_ => some (t, at_)
  | n + 1, t, at_ => if (Num.takeRow (b.drop at_) 8).2.2 = 0 then rows b n (t ++ [(Num.takeRow (b.drop at_) 8).1]) (at_ + (Num.takeRow (b.drop at_) 8).2.1) else none
/-- the table, its size, the error -/
def told : Option (List (List UInt8) × Nat) → List (List UInt8) × Nat × Nat
  | some (t, at_) => if Formed t then (t, at_, 0) else ([], 0, 2)
  | none => ([], 0, 2)
/-- the table that bytes begin with: it, its size, the error -/
def takeTable (b : List UInt8) : List (List UInt8) × Nat × Nat :=
  if (Num.take b).2.2 = 0 ∧ (Num.take b).1 ≤ 32 then told (rows b (Num.take b).1 [] (Num.take b).2.1) else ([], 0, 2)
theorem table_length_le {t : List (List UInt8)} (ht : Formed t) : (table t).length ≤ 9 + 17 * t.length := by
  have h9 := Num.size_le9 (v := t.length) (by have := ht.1; omega)
  have h2 : ∀ l : List (List UInt8), (∀ s ∈ l, s.length ≤ 8) → (l.map Num.row).flatten.length ≤ 17 * l.length := by
    intro l
    induction l with
    | nil => intro _; simp
    | cons s l ih =>
      intro h
      have h1 := h s (by simp)
      have h3 := Num.size_le9 (v := s.length) (by omega)
      have := ih (fun x hx => h x (by simp [hx]))
      rw [List.map_cons, List.flatten_cons, List.length_append, Num.row_length, List.length_cons]
      omega
  rw [table, List.length_append, Num.num_length]
  have := h2 t (fun s hs => (ht.2.1 s hs).2)
  omega
theorem table_pos (t : List (List UInt8)) : 1 ≤ (table t).length := by
  rw [table, List.length_append, Num.num_length]
  have := Num.size_pos t.length
  omega
end Go.Proofs.Ytoebeibmmclhpaa.Sym

/- The comparison by which sym.Train sorts. -/
namespace Go.Proofs.Ytoebeibmmclhpaa
open Go.RowKit
set_option maxRecDepth 100000
theorem less_eq : ∀ (x y : List UInt8), Op.bytesLess x y = decide (x < y)
  | [], [] => by simp [Op.bytesLess]
  | _ :: _, [] => by simp [Op.bytesLess]
  | [], _ :: _ => by simp [Op.bytesLess]
  | a :: x, b :: y => by
    rw [Op.bytesLess, less_eq x y]
    simp only [List.cons_lt_cons_iff]
    by_cases h1 : a < b <;> by_cases h2 : a = b <;> by_cases h3 : x < y <;> simp [h1, h2, h3]
theorem isNaNInt_any (x : Int) (w : World) : Calls Try.prog 57 #[.int .i64 x] w fun e w' => e = .returned (.bool false) ∧ w = w' := by
  have h : (x != x) = false := by simp
  go_enter Try.func57, Try.ntmps57
  go_wp2
  go_ret
  exact ⟨rfl, rfl⟩
theorem isNaNStr_any (x : List UInt8) (w : World) : Calls Try.prog 58 #[.string ⟨x.toArray⟩] w fun e w' => e = .returned (.bool false) ∧ w = w' := by
  have h : (x != x) = false := by simp
  go_enter Try.func58, Try.ntmps58
  go_wp2
  go_ret
  exact ⟨rfl, rfl⟩
/-- compared -/
def cmpI (x y : Int) : Int := if x < y then -1 else if y < x then 1 else 0
def cmpS (x y : List UInt8) : Int := if x < y then -1 else if y < x then 1 else 0
theorem compareInt_any (x y : Int) (w : World) : Calls Try.prog 47 #[.int .i64 x, .int .i64 y] w fun e w' => e = .returned (.int .i64 (cmpI x y)) ∧ w = w' := by
  by_cases h1 : x < y
  · have e : cmpI x y = -1 := by unfold cmpI; rw [if_pos h1]
    rw [e]
    clear e
    go_enter Try.func47, Try.ntmps47
    go_wp2_with (go_at_call 57; refine (isNaNInt_any _ _).mono ?_; rintro e w' ⟨rfl, rfl⟩)
    go_ret
    exact ⟨rfl, rfl⟩
  · by_cases h2 : y < x
    · have e : cmpI x y = 1 := by unfold cmpI; rw [if_neg h1, if_pos h2]
      rw [e]
      clear e
      go_enter Try.func47, Try.ntmps47
      go_wp2_with (go_at_call 57; refine (isNaNInt_any _ _).mono ?_; rintro e w' ⟨rfl, rfl⟩)
      go_ret
      exact ⟨rfl, rfl⟩
    · have e : cmpI x y = 0 := by unfold cmpI; rw [if_neg h1, if_neg h2]
      rw [e]
      clear e
      go_enter Try.func47, Try.ntmps47
      go_wp2_with (go_at_call 57; refine (isNaNInt_any _ _).mono ?_; rintro e w' ⟨rfl, rfl⟩)
      go_ret
      exact ⟨rfl, rfl⟩
theorem compareStr_any (x y : List UInt8) (w : World) : Calls Try.prog 48 #[.string ⟨x.toArray⟩, .string ⟨y.toArray⟩] w fun e w' => e = .returned (.int .i64 (cmpS x y)) ∧ w = w' := by
  by_cases h1 : x < y
  · have e : cmpS x y = -1 := by unfold cmpS; rw [if_pos h1]
    rw [e]
    have hl : Op.bytesLess x y = true := by rw [less_eq]; exact decide_eq_true h1
    clear e h1
    go_enter Try.func48, Try.ntmps48
    go_wp2_with (go_at_call 58; refine (isNaNStr_any _ _).mono ?_; rintro e w' ⟨rfl, rfl⟩)
    go_ret
    exact ⟨rfl, rfl⟩
  · have hl : Op.bytesLess x y = false := by rw [less_eq]; exact decide_eq_false h1
    by_cases h2 : y < x
    · have e : cmpS x y = 1 := by unfold cmpS; rw [if_neg h1, if_pos h2]
      rw [e]
      have hne : (x == y) = false := by
        rw [beq_eq_false_iff_ne]
        rintro rfl
        exact absurd h2 h1
      clear e h1 h2
      go_enter Try.func48, Try.ntmps48
      go_wp2_with (go_at_call 58; refine (isNaNStr_any _ _).mono ?_; rintro e w' ⟨rfl, rfl⟩)
      go_ret
      exact ⟨rfl, rfl⟩
    · have e : cmpS x y = 0 := by unfold cmpS; rw [if_neg h1, if_neg h2]
      rw [e]
      obtain rfl : x = y := List.le_antisymm (List.not_lt.1 h2) (List.not_lt.1 h1)
      have hne : (x == x) = true := by simp
      clear e h1 h2
      go_enter Try.func48, Try.ntmps48
      go_wp2_with (go_at_call 58; refine (isNaNStr_any _ _).mono ?_; rintro e w' ⟨rfl, rfl⟩)
      go_ret
      exact ⟨rfl, rfl⟩
theorem val_bound {P : List (List UInt8)} (hP : P.length ≤ 7168) {s : List UInt8} (hs : s.length ≤ 8) : -7168 ≤ Sym.val P s ∧ Sym.val P s ≤ 50176 := by
  have hc : P.count s ≤ P.length := List.count_le_length
  unfold Sym.val
  obtain ⟨c, hc'⟩ : ∃ c, c = P.count s := ⟨_, rfl⟩
  rw [← hc'] at hc ⊢
  have : s.length = 0 ∨ s.length = 1 ∨ s.length = 2 ∨ s.length = 3 ∨ s.length = 4 ∨ s.length = 5 ∨ s.length = 6 ∨ s.length = 7 ∨ s.length = 8 := by omega
  rcases this with h | h | h | h | h | h | h | h | h <;> rw [h] <;> omega
/-- sym.Train's value: what a piece is worth -/
theorem value_any (g M : Nat) (P : List (List UInt8)) (x : List UInt8) (w : World) (hP : P.length ≤ 7168) (hx : x.length ≤ 8) (hc : w.cell? ⟨g, 0, none⟩ = some (.map (some M))) (h : Counts w M P) :
    Calls Try.prog 44 #[.string ⟨x.toArray⟩, .pointer (some ⟨g, 0, none⟩)] w fun e w' => e = .returned (.int .i64 (Sym.val P x)) ∧ w = w' := by
  have hl := run_look1_strmap h Try.underlying73 Try.underlying3 zeroI64 (s := x) (by unfold maxLen; omega)
  rw [Sym.cnt_get] at hl
  have hb := val_bound hP hx
  have hv : Sym.val P x = ((x.length : Int) - 1) * (P.count x : Int) := rfl
  have hb1 : -7168 ≤ ((x.length : Int) - 1) * (P.count x : Int) := by rw [← hv]; exact hb.1
  have hb2 : ((x.length : Int) - 1) * (P.count x : Int) ≤ 50176 := by rw [← hv]; exact hb.2
  have Hv := Lib.hid hv
  clear h hv hb
  generalize P.count x = C at *
  go_enter Try.func44, Try.ntmps44
  go_wp2
  go_ret
  refine ⟨?_, rfl⟩
  rw [Hv.out]
  rfl
/-- what sym.Train's comparison answers -/
def cfT (P : List (List UInt8)) (x y : List UInt8) : Int := if cmpI (Sym.val P y) (Sym.val P x) ≠ 0 then cmpI (Sym.val P y) (Sym.val P x) else cmpS x y
theorem cfT_neg {P : List (List UInt8)} {x y : List UInt8} : cfT P x y < 0 ↔ Sym.ahead P x y = true := by
  rw [Sym.ahead_iff]
  unfold cfT cmpI cmpS
  by_cases h1 : Sym.val P y < Sym.val P x
  · rw [if_pos h1]; simp [h1]
  · rw [if_neg h1]
    by_cases h2 : Sym.val P x < Sym.val P y
    · rw [if_pos h2]
      simp [h1]
      omega
    · rw [if_neg h2]
      have e : Sym.val P y = Sym.val P x := by omega
      simp only [ne_eq, not_true_eq_false, if_false, e, true_and]
      by_cases h3 : x < y
      · rw [if_pos h3]; simp [h3]
      · rw [if_neg h3]
        simp only [h3, Int.lt_irrefl, false_or]
        split <;> simp
set_option maxHeartbeats 1000000 in
theorem compare_any (g4 g3 M : Nat) (P : List (List UInt8)) (x y : List UInt8) (w : World) (hP : P.length ≤ 7168) (hx : x.length ≤ 8) (hy : y.length ≤ 8)
    (c4 : w.cell? ⟨g4, 0, none⟩ = some (.func (.func 44) #[] #[.pointer (some ⟨g3, 0, none⟩)])) (c3 : w.cell? ⟨g3, 0, none⟩ = some (.map (some M))) (h : Counts w M P) :
    Calls Try.prog 46 #[.string ⟨x.toArray⟩, .string ⟨y.toArray⟩, .pointer (some ⟨g4, 0, none⟩)] w fun e w' => e = .returned (.int .i64 (cfT P x y)) ∧ ∃ q, w' = w.drewN q := by
  have HV := Lib.hid fun (s : List UInt8) (hs : s.length ≤ 8) (n : Nat) => value_any g3 M P s (w.drewN n) hP hs c3 (by exact h)
  have HC := Lib.hid fun (n : Nat) => compareInt_any (Sym.val P y) (Sym.val P x) (w.drewN n)
  have HS := Lib.hid fun (n : Nat) => compareStr_any x y (w.drewN n)
  unfold cfT
  obtain ⟨v, hv⟩ : ∃ v : List UInt8 → Int, v = Sym.val P := ⟨_, rfl⟩
  rw [← hv] at HC ⊢
  have HV2 : Hid (∀ (s : List UInt8), s.length ≤ 8 → ∀ n : Nat, Calls Try.prog 44 #[.string ⟨s.toArray⟩, .pointer (some ⟨g3, 0, none⟩)] (w.drewN n) fun e w' => e = .returned (.int .i64 (v s)) ∧ w.drewN n = w') := Lib.hid (by rw [hv]; exact HV.out)
  clear h hv HV
  by_cases hz : cmpI (v y) (v x) = 0
  · rw [if_neg (by simpa using hz)]
    rw [hz] at HC
    generalize cmpS x y = r at *
    clear hz
    go_enter Try.func46, Try.ntmps46
    go_wp2_with fail
    go_quiet ((first | (go_at_call 44; exact quiet_left (HV2.out _ (by assumption) _)) | (go_at_call 47; exact quiet_left (HC.out _))))
    go_wp2_with (go_at_call 48; refine (HS.out _).mono ?_; rintro e w' ⟨rfl, rfl⟩)
    go_ret
    exact ⟨rfl, _, rfl⟩
  · rw [if_pos hz]
    generalize cmpI (v y) (v x) = r at *
    have hz' : (r != 0) = true := by simpa using hz
    go_enter Try.func46, Try.ntmps46
    go_wp2_with fail
    go_quiet ((first | (go_at_call 44; exact quiet_left (HV2.out _ (by assumption) _)) | (go_at_call 47; exact quiet_left (HC.out _))))
    go_wp2
    go_ret
    exact ⟨rfl, _, rfl⟩
end Go.Proofs.Ytoebeibmmclhpaa

/- The sort of the candidates, by the library's contract. -/
namespace Go.Proofs.Ytoebeibmmclhpaa
open Go.RowKit Go.Sort Go.Shelf
set_option maxRecDepth 100000
/-- texts of at most eight letters -/
abbrev S8 := {l : List UInt8 // l.length ≤ 8}
instance : Inhabited S8 := ⟨⟨[], by simp⟩⟩
def enc8 (x : S8) : Value := .string ⟨x.1.toArray⟩
theorem enc8_one : OneCell enc8 := fun _ => rfl
def cf8 (P : List (List UInt8)) (x y : S8) : Int := cfT P x.1 y.1
theorem lt8 (P : List (List UInt8)) (x y : S8) : ltOf (cf8 P) x y = Sym.ahead P x.1 y.1 := by
  unfold ltOf cf8
  rw [Bool.eq_iff_iff, decide_eq_true_iff]
  exact cfT_neg
theorem swo8 (P : List (List UInt8)) : SWO (ltOf (cf8 P)) where
  irrefl x := by rw [lt8]; exact Sym.ahead_irrefl P x.1
  trans x y z h1 h2 := by rw [lt8] at *; exact Sym.ahead_trans h1 h2
  ntrans x y z h1 h2 := by rw [lt8] at *; exact Sym.ahead_ntrans h1 h2
theorem tot8 (P : List (List UInt8)) (x y : S8) (h1 : ltOf (cf8 P) x y = false) (h2 : ltOf (cf8 P) y x = false) : x = y := by
  rw [lt8] at *
  exact Subtype.ext (Sym.ahead_same h1 h2)
theorem grownBy_sortWorld {α : Type} [Inhabited α] (enc : α → Value) (w : World) (g n : Nat) (d : Array α) (os : Array Obj) : w.grownBy (sortWorld enc w g 0 n d os) (some g) := by
  unfold sortWorld
  refine ⟨rfl, rfl, rfl, by simp, fun k hk hne => ?_⟩
  rw [heap_grow_old _ _ (by simpa using hk)]
  have : g ≠ k := fun e => hne (by rw [e])
  simp [putRow, mapBlock, Sort.ahead, Array.getElem?_modify, this]
theorem heap_sortWorld {α : Type} [Inhabited α] (enc : α → Value) {w : World} {g n : Nat} {os : Array Obj} {cur : Array Value} {e : TypeId} {fr : Nat × Nat} (d : Array α) (hb : w.heap[g]? = some (.cells cur e fr)) :
    (sortWorld enc w g 0 n d os).heap[g]? = some (.cells (putCells enc 0 d cur) e fr) := by
  unfold sortWorld
  have hg : g < w.heap.size := (Array.getElem?_eq_some_iff.1 hb).1
  rw [heap_grow_old _ _ (by simpa using hg)]
  simp [putRow, mapBlock, Sort.ahead, Array.getElem?_modify, hb, onCells]
theorem take_put8 (cur : Array Value) (ts : List S8) (h : ts.length ≤ cur.size) : (putCells enc8 0 ts.toArray cur).toList.take ts.length = ts.map enc8 := by
  apply List.ext_getElem?
  intro j
  by_cases hj : j < ts.length
  · rw [List.getElem?_take_of_lt hj, Array.getElem?_toList]
    simp [putCells, hj, show j < cur.size by omega]
  · rw [List.getElem?_take_eq_none (by omega), List.getElem?_eq_none (by simp; omega)]
theorem holds8 {w : World} {g : Nat} {cur : Array Value} {e : TypeId} {ss : List S8} (hb : w.heap[g]? = some (.cells cur e (0, 0))) (ht : cur.toList.take ss.length = ss.map enc8) : Holds enc8 w g 0 ss.toArray := by
  intro j hj
  have hj' : j < ss.length := by simpa using hj
  refine ⟨?_, by simp [World.frozen?, hb]⟩
  have h1 : (cur.toList.take ss.length)[j]? = (ss.map enc8)[j]? := by rw [ht]
  rw [List.getElem?_take_of_lt hj'] at h1
  simp only [World.cell?, hb, Nat.zero_add]
  simp only [Option.isSome_none, Bool.false_eq_true, if_false]
  rw [← Array.getElem?_toList, h1]
  simp [hj']
theorem list8 : ∀ (ss : List (List UInt8)), (∀ s ∈ ss, s.length ≤ 8) → ∃ l : List S8, l.map (·.1) = ss
  | [], _ => ⟨[], rfl⟩
  | s :: r, h => by
    obtain ⟨l, hl⟩ := list8 r (fun x hx => h x (by simp [hx]))
    exact ⟨⟨s, h s (by simp)⟩ :: l, by rw [List.map_cons, hl]⟩
theorem cell_far {w w' : World} {row : Option Nat} (hg : w.grownBy w' row) {g i : Nat} {v : Value} (h : w.cell? ⟨g, i, none⟩ = some v) (hlt : g < w.heap.size) (hne : some g ≠ row) : w'.cell? ⟨g, i, none⟩ = some v := by
  unfold World.cell? at *
  rw [hg.block g hlt hne]
  exact h
theorem sortFunc_any (A : Option Addr) (n c base g4 g3 M : Nat) (P ss : List (List UInt8)) (w : World) (ho : SOwn w base A n c ss) (h4 : g4 < base) (h3 : g3 < base) (hM : M < base) (hn : n < 4611686018427387904) (h8 : ∀ s ∈ ss, s.length ≤ 8) (hP : P.length ≤ 7168) (hbase : base ≤ w.heap.size)
    (c4 : w.cell? ⟨g4, 0, none⟩ = some (.func (.func 44) #[] #[.pointer (some ⟨g3, 0, none⟩)])) (c3 : w.cell? ⟨g3, 0, none⟩ = some (.map (some M))) (h : Counts w M P) :
    Calls Try.prog 45 #[.slice A n c, .func (.func 46) #[] #[.pointer (some ⟨g4, 0, none⟩)]] w fun e w' => e = .returned (.tuple #[]) ∧ SOwn w' base A n c (ss.mergeSort (Sym.leP P)) ∧ w.grownBy w' (blk A) := by
  by_cases h0 : n = 0
  · subst h0
    have hs : ss = [] := List.eq_nil_of_length_eq_zero ho.len
    subst hs
    have hS := AnyF.slices_SortFunc_none (P := Try.prog) (ρ := Try.sortL_ren) { Try.sortL with } A c (.func (.func 46) #[] #[.pointer (some ⟨g4, 0, none⟩)]) w
    refine Calls.mono hS fun e w' ⟨he, hw⟩ => ⟨he, ?_, ?_⟩
    · rw [hw, List.mergeSort_nil]; exact ho
    · rw [hw]; exact World.grownBy.refl w _
  · obtain ⟨g, rfl, hg1, hg2⟩ := ho.at_ (by omega)
    obtain ⟨l8, hl8⟩ := list8 ss h8
    have hlen : l8.length = n := by rw [← ho.len, ← hl8, List.length_map]
    rcases ho.2 with ⟨hnil, _⟩ | ⟨g', cap, cur, hv, hb1, hb2, hb3, hb4, hb5, hb6⟩
    · cases hnil
    · injection hv with hv1 hv2 hv3
      injection hv1 with hv1
      injection hv1 with hv1
      subst hv1 hv3
      have hcur : cur.toList.take l8.length = l8.map enc8 := by
        rw [hlen]
        rw [Nat.mul_one] at hb6
        rw [hb6, ← hl8, List.map_map]
        rfl
      have hH := holds8 hb2 hcur
      have eg : ∀ args w, (callFunc 46 args).run Try.prog w = .ok (.enter 46 args) w := enters_of Try.func46 (by kernel_rfl) rfl
      have hcmp : CmpReads Try.prog 46 #[.pointer (some ⟨g4, 0, none⟩)] enc8 (cf8 P) g 0 l8.toArray.size w := fun m os dk _ x y => by
        have hgr := grownBy_sortWorld enc8 w g m dk os
        exact compare_any g4 g3 M P x.1 y.1 _ hP x.2 y.2 (cell_far hgr c4 (by omega) (by simp; omega)) (cell_far hgr c3 (by omega) (by simp; omega)) (StrMap.kept h hgr (by simp; omega))
      have hS := Any.slices_SortFunc_total Try.sortL enc8 enc8_one (cf8 P) (swo8 P) 46 #[.pointer (some ⟨g4, 0, none⟩)] g 0 c l8.toArray w eg hcmp.lays hH hg2 (by rw [List.size_toArray]; omega) (tot8 P)
      rw [List.size_toArray, hlen] at hS
      refine Calls.mono hS fun e w' ⟨he, k, os, hw⟩ => ⟨he, ?_, ?_⟩
      · rw [hw]
        have hms : (l8.toArray.toList.mergeSort fun x y => !ltOf (cf8 P) y x).map (·.1) = ss.mergeSort (Sym.leP P) := by
          rw [← hl8]
          exact List.map_mergeSort (fun a _ b _ => by rw [lt8]; rfl)
        have hl2 : (l8.toArray.toList.mergeSort fun x y => !ltOf (cf8 P) y x).length = n := by rw [List.length_mergeSort]; exact hlen
        generalize (l8.toArray.toList.mergeSort fun x y => !ltOf (cf8 P) y x) = T at *
        refine ⟨by rw [List.length_map, ← hms, List.length_map, hl2, Nat.mul_one], .inr ⟨g, c, _, rfl, hb1, heap_sortWorld enc8 _ hb2, hb3, hb4, by simp [putCells, hb5], ?_⟩⟩
        rw [Nat.mul_one, ← hl2, take_put8 cur T (by omega), ← hms, List.map_map]
        rfl
      · rw [hw]; exact grownBy_sortWorld enc8 w g k _ os
end Go.Proofs.Ytoebeibmmclhpaa

/- Slices of strings: copied and looked through. -/
namespace Go.Proofs.Ytoebeibmmclhpaa
open Go.ChangeShapes Go.WideShapes Go.ChangeAt Go.RowKit
set_option maxRecDepth 100000
/-- what Index answers -/
def IdxPost (w : World) (t : List (List UInt8)) (s : List UInt8) (e : Ending) (w' : World) : Prop := ∃ k : Int, e = .returned (.int .i64 k) ∧ (0 ≤ k ↔ s ∈ t) ∧ w = w'
set_option maxHeartbeats 400000 in
theorem index_any (A : Option Addr) (n c B : Nat) (t : List (List UInt8)) (s : List UInt8) (w : World) (hl : t.length = n) (hn : n ≤ 140737488355328) (h1 : Strs w B A t) :
    Calls Try.prog 74 #[.slice A n c, .string ⟨s.toArray⟩] w (IdxPost w t s) := by
  have Hl := Lib.hid hl; clear hl
  go_enter Try.func74, Try.ntmps74
  go_wp2
  go_loop [8] (fun i => ∃ (k : Nat), k ≤ n ∧ i = .int .i64 k ∧ s ∉ t.take k) (fun i => n - (intOf i).toNat)
  case atStart => exact ⟨0, Nat.zero_le _, rfl, by simp⟩
  case round =>
    obtain ⟨k, hk, rfl, hnot⟩ := hrel
    by_cases hlt : k < n
    · have hk' : k < t.length := by have := Hl.out; omega
      obtain ⟨ad1, rfl, _, hc1⟩ := h1.get hk'
      simp only [sval] at hc1
      have hts : t.take (k + 1) = t.take k ++ [t[k]] := List.take_succ_eq_append_getElem hk'
      have hmem : t[k] ∈ t := List.getElem_mem hk'
      generalize t[k] = x at *
      by_cases hx : s = x
      · subst hx
        have hxx : (s == s) = true := by simp
        clear hts
        go_wp2
        go_ret
        exact ⟨k, rfl, iff_of_true (by omega) hmem, rfl⟩
      · have hxx : (s == x) = false := by simpa using hx
        have Hts := Lib.hid hts; clear hts
        have hx' : ¬ s.toArray = x.toArray := fun h => hx (by simpa using congrArg Array.toList h)
        go_wp2
        go_round
        case rel => exact ⟨k + 1, by omega, by go_num, by rw [Hts.out]; simp [hnot, hx]⟩
        case measure => simp [intOf]; omega
    · have Hnot : s ∉ t := by
        have := Hl.out
        rwa [List.take_of_length_le (by omega)] at hnot
      go_wp2
      go_ret
      exact ⟨-1, rfl, iff_of_false (by omega) Hnot, rfl⟩
theorem contains_any (A : Option Addr) (n c B : Nat) (t : List (List UInt8)) (s : List UInt8) (w : World) (hl : t.length = n) (hn : n ≤ 140737488355328) (h1 : Strs w B A t) :
    Calls Try.prog 59 #[.slice A n c, .string ⟨s.toArray⟩] w fun e w' => e = .returned (.bool (decide (s ∈ t))) ∧ w = w' := by
  have H := Lib.hid (index_any A n c B t s w hl hn h1)
  clear hl h1
  go_enter Try.func59, Try.ntmps59
  go_wp2_with fail
  refine H.out.mono ?_
  rintro e w1 ⟨k, rfl, hk, rfl⟩
  have Hk := Lib.hid (show decide (s ∈ t) = decide (0 ≤ k) from decide_eq_decide.2 hk.symm)
  clear H hk
  go_wp2
  go_ret
  exact ⟨by rw [Hk.out]; rfl, rfl⟩
end Go.Proofs.Ytoebeibmmclhpaa

/- sym.Formed and the document's: is it a table? -/
namespace Go.Proofs.Ytoebeibmmclhpaa
open Go.RowKit
set_option maxRecDepth 100000
theorem sizeStr (W : World) : (sizeOf 9).run Try.prog W = .ok 1 W := by
  obtain ⟨i0, hi0, hz0, hz1, hz2⟩ := info_parts string_info
  simp [sizeOf, typeInfo, hi0, hz1]
theorem elemOfStrs : Try.prog.elem 60 = 9 := by kernel_rfl
/-- the first strings of a slice -/
theorem run_cutStr_h (A : Option Addr) (n cap hi : Nat) (h2 : hi ≤ cap) (W : World) :
    (Instr.slice 60 (.slice A n cap) none (some (.int .i64 (hi : Int))) none).run Try.prog W = .ok (.slice A hi cap) W := by
  rw [run_slice_h (P := Try.prog) (w := W) (kh := .i64) (h := (hi : Int)) (h0 := by omega) (h2 := by omega) (ht := by rw [elemOfStrs]; exact Try.underlying60)]
  rw [elemOfStrs, sizeStr]
  by_cases hc : cap = 0 <;> cases A <;> simp [Result.andThen, sliced, Addr.add]
namespace Sym
/-- the first k symbols are right -/
def Ok (t : List (List UInt8)) (k : Nat) : Prop := (∀ s ∈ t.take k, 2 ≤ s.length ∧ s.length ≤ 8) ∧ (t.take k).Nodup
theorem ok_zero (t : List (List UInt8)) : Ok t 0 := ⟨by simp, by simp⟩
theorem ok_all {t : List (List UInt8)} (h : Ok t t.length) (hl : t.length ≤ 32) : formed t = true := by
  unfold Ok at h
  rw [List.take_length] at h
  exact formed_iff.2 ⟨hl, h.1, h.2⟩
theorem ok_step {t : List (List UInt8)} {k : Nat} (hk : k < t.length) (h : Ok t k) (h2 : 2 ≤ t[k].length) (h8 : t[k].length ≤ 8) (hn : t[k] ∉ t.take k) : Ok t (k + 1) := by
  unfold Ok
  rw [List.take_succ_eq_append_getElem hk]
  refine ⟨fun s hs => ?_, ?_⟩
  · rcases List.mem_append.1 hs with hs | hs
    · exact h.1 s hs
    · rw [List.mem_singleton] at hs
      subst hs
      exact ⟨h2, h8⟩
  · rw [List.nodup_append]
    refine ⟨h.2, by simp, fun a ha b hb => ?_⟩
    rw [List.mem_singleton] at hb
    subst hb
    exact fun e => hn (e ▸ ha)
theorem not_len {t : List (List UInt8)} {k : Nat} (hk : k < t.length) (h : t[k].length < 2 ∨ 8 < t[k].length) : formed t = false :=
  formed_not.2 fun ⟨_, h2, _⟩ => by have := h2 _ (List.getElem_mem hk); omega
theorem not_twice {t : List (List UInt8)} {k : Nat} (hk : k < t.length) (h : t[k] ∈ t.take k) : formed t = false := by
  refine formed_not.2 fun ⟨_, _, h3⟩ => ?_
  obtain ⟨j, hj, e⟩ := List.mem_iff_getElem.1 h
  rw [List.getElem_take] at e
  have hj' : j < k := by simp at hj; omega
  have := nodup_at h3 (by omega) hk e
  omega
theorem not_long {t : List (List UInt8)} (h : 32 < t.length) : formed t = false := formed_not.2 fun ⟨h1, _⟩ => by omega
end Sym
set_option maxHeartbeats 1000000 in
theorem formed_any (A : Option Addr) (n cap B : Nat) (t : List (List UInt8)) (w : World) (hl : t.length = n) (hcap : n ≤ cap) (hn : n ≤ 140737488355328) (h1 : Strs w B A t) (hs : ∀ s ∈ t, s.length ≤ maxLen) :
    Calls Try.prog 50 #[.slice A n cap] w fun e w' => e = .returned (.bool (Sym.formed t)) ∧ w = w' := by
  by_cases h32 : 32 < n
  · rw [Sym.not_long (by omega)]
    have h32' : (32 : Int) < (n : Int) := by omega
    clear h1 hs hl
    go_enter Try.func50, Try.ntmps50
    go_wp2
    go_ret
    exact ⟨rfl, rfl⟩
  · have h32' : ¬ ((32 : Int) < (n : Int)) := by omega
    have Hl := Lib.hid hl; clear hl
    have Hs := Lib.hid hs; clear hs
    go_enter Try.func50, Try.ntmps50
    go_wp2
    go_loop [10] (fun i => ∃ (k : Nat), k ≤ n ∧ i = .int .i64 k ∧ Sym.Ok t k) (fun i => n - (intOf i).toNat)
    case atStart => exact ⟨0, Nat.zero_le _, rfl, Sym.ok_zero t⟩
    case round =>
      obtain ⟨k, hk, rfl, hok⟩ := hrel
      by_cases hlt : k < n
      · have hk' : k < t.length := by have := Hl.out; omega
        obtain ⟨ad1, rfl, _, hc1⟩ := h1.get hk'
        have hmax := Hs.out _ (List.getElem_mem hk')
        unfold maxLen at hmax
        have HC := Lib.hid (contains_any (some ad1) k cap B (t.take k) t[k] w (by simp; omega) (by omega) (h1.take k))
        have HL := Lib.hid (Sym.not_len hk')
        have HT := Lib.hid (Sym.not_twice hk')
        have HS := Lib.hid (Sym.ok_step hk' hok)
        have hsl := run_cutStr_h (some ad1) n cap k (by omega)
        simp only [sval] at hc1
        generalize t[k] = x at *
        by_cases hx2 : x.length < 2
        · have hd : decide ((x.length : Int) < 2) = true := by simp; omega
          go_wp2
          go_ret
          exact ⟨by rw [HL.out (.inl hx2)]; rfl, rfl⟩
        · by_cases hx8 : 8 < x.length
          · have hd : decide ((x.length : Int) < 2) = false := by simp; omega
            have hd8 : decide (8 < (x.length : Int)) = true := by simp; omega
            go_wp2
            go_ret
            exact ⟨by rw [HL.out (.inr hx8)]; rfl, rfl⟩
          · have hd : decide ((x.length : Int) < 2) = false := by simp; omega
            have hd8 : decide (8 < (x.length : Int)) = false := by simp; omega
            by_cases hmem : x ∈ t.take k
            · rw [decide_eq_true hmem] at HC
              go_wp2_with (go_at_call 59; refine HC.out.mono ?_; rintro e w' ⟨rfl, rfl⟩)
              go_ret
              exact ⟨by rw [HT.out hmem]; rfl, rfl⟩
            · rw [decide_eq_false hmem] at HC
              have HR := Lib.hid (HS.out (by omega) (by omega) hmem)
              clear hok
              go_wp2_with (go_at_call 59; refine HC.out.mono ?_; rintro e w' ⟨rfl, rfl⟩)
              go_round
              case rel => exact ⟨k + 1, by omega, by go_num, HR.out⟩
              case measure => simp [intOf]; omega
      · have HE : Hid (Sym.formed t = true) := by
          have hkn : k = t.length := by have := Hl.out; omega
          rw [hkn] at hok
          exact Lib.hid (Sym.ok_all hok (by omega))
        clear hok
        go_wp2
        go_ret
        exact ⟨by rw [HE.out]; rfl, rfl⟩
end Go.Proofs.Ytoebeibmmclhpaa

/- sym.TakeTable. -/
namespace Go.Proofs.Ytoebeibmmclhpaa
open Go.RowKit
set_option maxRecDepth 100000
/-- what a call leaves that returns strings of its own, a number and an error -/
def TabPost (w : World) (r : List (List UInt8) × Nat × Nat) (e : Ending) (w' : World) : Prop :=
  ∃ A c, e = .returned (.tuple #[.slice A r.1.length c, .int .i64 (r.2.1 : Int), .int .i64 (r.2.2 : Int)]) ∧ SOwn w' w.heap.size A r.1.length c r.1 ∧ Below w.heap.size w w'
theorem sown_none (w : World) (base : Nat) : SOwn w base none 0 0 [] := ROwn.nil _ _ w base
theorem TabPost.none {w w' : World} (e : Nat) (hb : Below w.heap.size w w') : TabPost w ([], 0, e) (.returned (.tuple #[.slice none 0 0, .int .i64 0, .int .i64 (e : Int)])) w' := ⟨.none, 0, rfl, sown_none _ _, hb⟩
/-- a literal of one string -/
theorem own_str (w : World) (s : List UInt8) : SOwn (w.alloc (.cells #[.string ⟨s.toArray⟩] 9)) w.heap.size (some ⟨w.heap.size, 0, none⟩) 1 1 [s] :=
  ROwn.lit (f := sval) (e := 9) w w.heap.size [s] (Nat.le_refl _) (by simp [maxLen])
end Go.Proofs.Ytoebeibmmclhpaa

/- sym.Train. -/
namespace Go.Proofs.Ytoebeibmmclhpaa
open Go.RowKit Go.Maps
set_option maxRecDepth 100000
set_option maxHeartbeats 400000 in
theorem cloneStr_all (A : Option Addr) (n cap B : Nat) (t : List (List UInt8)) (w : World) (hl : t.length = n) (hn : n * 16 ≤ 140737488355328) (hb : Strs w B A t) (hB : B ≤ w.heap.size) :
    Calls Try.prog 49 #[.slice A n cap] w fun e w' => ∃ A' c, e = .returned (.slice A' n c) ∧ SOwn w' w.heap.size A' n c t ∧ Below w.heap.size w w' := by
  have q22 : ∀ (w : World) (a : Option Addr) (n c n' c' : Nat), (binOp .eql 60 (.slice a n c) (.slice none n' c')).run Try.prog w = .ok (.bool a.isNone) w := fun w a n c n' c' => Lib.run_eql_slice_nil w _ _ a n c n' c' Try.underlying60
  cases A with
  | none =>
    have hl0 := hb.none_
    subst hl0
    obtain rfl : 0 = n := by simpa using hl
    clear hb hl
    go_enter Try.func49, Try.ntmps49
    go_wp2
    go_ret
    exact ⟨none, 0, rfl, ROwn.nil _ _ _ _, Below.refl _ _⟩
  | some ad =>
    have Hl := Lib.hid hl; clear hl
    have hb1 : Strs (w.alloc (.cells #[] 9)) B (some ad) t := hb.below ((Below.refl _ _).alloc hB _)
    have ho1 : SOwn (w.alloc (.cells #[] 9)) w.heap.size (some ⟨w.heap.size, 0, none⟩) 0 0 [] := ROwn.made w w.heap.size #[] 0 (Nat.le_refl _) (by simp only [maxLen]; omega) rfl
    have hbel : Below w.heap.size w (w.alloc (.cells #[] 9)) := (Below.refl _ _).alloc (Nat.le_refl _) _
    clear hb
    go_enter Try.func49, Try.ntmps49
    go_wp2_with (at_builtin; refine wpList_append_row elemStr rfl (.tmp 5) (.tmp 6) rfl w.heap.size _ 0 0 [] rfl ho1 B (some ad) n cap t rfl Hl.out hb1 (by omega) (by simp only [maxLen]; omega) (by simp) ?_; intro A1 c1 w1 ho2 hg2 hat2)
    go_ret
    rw [Nat.zero_add] at ho2
    refine ⟨A1, c1, by simp, ho2, hbel.grown hg2 (by simp) ?_⟩
    intro k hk
    simp [blk] at hk
    omega
/-- what was collected: the candidates that are no longer to come -/
def Coll (P : List (List UInt8)) (left : Lit → Bool) (ss : List (List UInt8)) : Prop := ss.Nodup ∧ ∀ s, s ∈ ss ↔ (2 ≤ P.count s ∧ left (.string s) = false)
theorem coll_start {P : List (List UInt8)} {D : DataW Unit} (hD : ∀ s, SaysS .i64 D s (Sym.cnt P s)) : Coll P (Maps.has D) [] := by
  refine ⟨List.nodup_nil, fun s => ⟨(fun h => by cases h), fun ⟨h2, hf⟩ => ?_⟩⟩
  have h := hD s
  unfold Sym.cnt at h
  rw [if_pos (Sym.count_mem h2)] at h
  rw [h.1] at hf
  cases hf
theorem left_step {left : Lit → Bool} {x s : List UInt8} : (left (.string s) && !(Lit.string s).sameKey (.string x)) = false ↔ left (.string s) = false ∨ s = x := by
  by_cases e : s = x
  · subst e
    simp [Lit.sameKey]
  · rw [sameKey_ne (ne_str e)]
    simp [e]
theorem coll_more {P ss : List (List UInt8)} {left : Lit → Bool} {x : List UInt8} (h : Coll P left ss) (hx : left (.string x) = true) (h2 : 2 ≤ P.count x) : Coll P (fun z => left z && !z.sameKey (.string x)) (ss ++ [x]) := by
  refine ⟨?_, fun s => ?_⟩
  · rw [List.nodup_append]
    refine ⟨h.1, by simp, fun a ha b hb => ?_⟩
    rw [List.mem_singleton] at hb
    subst hb
    rintro rfl
    have := ((h.2 a).1 ha).2
    rw [hx] at this
    cases this
  · rw [List.mem_append, List.mem_singleton, h.2, left_step]
    constructor
    · rintro (⟨a, b⟩ | rfl)
      · exact ⟨a, .inl b⟩
      · exact ⟨h2, .inr rfl⟩
    · rintro ⟨a, b | rfl⟩
      · exact .inl ⟨a, b⟩
      · exact .inr rfl
theorem coll_same {P ss : List (List UInt8)} {left : Lit → Bool} {x : List UInt8} (h : Coll P left ss) (h2 : ¬ 2 ≤ P.count x) : Coll P (fun z => left z && !z.sameKey (.string x)) ss := by
  refine ⟨h.1, fun s => ?_⟩
  rw [h.2, left_step]
  constructor
  · rintro ⟨a, b⟩
    exact ⟨a, .inl b⟩
  · rintro ⟨a, b | rfl⟩
    · exact ⟨a, b⟩
    · exact absurd a h2
theorem coll_end {P ss : List (List UInt8)} {left : Lit → Bool} (h : Coll P left ss) (hl : ∀ kl, left kl = false) : ss.mergeSort (Sym.leP P) = Sym.srt P :=
  Sym.srt_unique h.1 fun s => by rw [h.2, hl]; simp
theorem nodup_len : ∀ {ss P : List (List UInt8)}, ss.Nodup → (∀ s ∈ ss, s ∈ P) → ss.length ≤ P.length
  | [], _, _, _ => Nat.zero_le _
  | s :: r, P, hn, hs => by
    rw [List.nodup_cons] at hn
    have hm := hs s (by simp)
    have h := nodup_len (P := P.erase s) hn.2 (fun u hu => (List.mem_erase_of_ne (fun e => hn.1 (by rw [← e]; exact hu))).2 (hs u (by simp [hu])))
    rw [List.length_erase_of_mem hm] at h
    have := List.length_pos_of_mem hm
    rw [List.length_cons]
    omega
set_option maxHeartbeats 4000000 in
theorem train_any (A : Option Addr) (n cap B : Nat) (ss : List (List UInt8)) (w : World) (hl : ss.length = n) (hn : n ≤ 140737488355328) (hs : ∀ s ∈ ss, s.length ≤ 140737488351232) (h1 : Samples w B A ss) (hB : B ≤ w.heap.size) :
    Calls Try.prog 31 #[.slice A n cap] w fun e w' => ∃ A' c, e = .returned (.slice A' (Sym.train (Sym.pieces ss 1024)).length c) ∧ SOwn w' w.heap.size A' (Sym.train (Sym.pieces ss 1024)).length c (Sym.train (Sym.pieces ss 1024)) ∧ Below w.heap.size w w' := by
  have HC := Lib.hid (countPieces_any A n cap B ss w hl hn hs h1 hB)
  have hPl := Sym.pieces_length ss 1024
  have hP8 := Lib.hid (Sym.pieces_len ss 1024)
  generalize Sym.pieces ss 1024 = P at *
  obtain ⟨M, hM⟩ : ∃ M, M = w.heap.size := ⟨_, rfl⟩
  rw [← hM] at HC ⊢
  have HM := Lib.hid hM
  clear hl hs h1 hM hB
  go_enter Try.func31, Try.ntmps31
  go_wp2_with fail
  refine HC.out.mono ?_
  rintro e w1 ⟨rfl, hct, hbel1⟩
  clear HC
  have hMl := StrMap.lt hct
  obtain ⟨D, hown, hD⟩ := hct
  obtain ⟨w4, hw4⟩ : ∃ w4, w4 = (w1.alloc (.cells #[.map (some M)] 73)).alloc (.cells #[.func (.func 44) #[] #[.pointer (some ⟨w1.heap.size, 0, none⟩)]] 75) := ⟨_, rfl⟩
  have hsz4 : w4.heap.size = w1.heap.size + 2 := by rw [hw4]; simp
  have hown4 : w4.ownsMap Try.prog 9 (plainElem Try.prog 3) M P.length D := by rw [hw4]; exact (hown.alloc _).alloc _
  have c3 : w4.cell? ⟨w1.heap.size, 0, none⟩ = some (.map (some M)) := by
    rw [hw4]
    refine (((Below.refl (w1.heap.size + 1) _).alloc (by simp) _).cell (p := ⟨w1.heap.size, 0, none⟩) (Nat.lt_succ_self _)).trans ?_
    rw [World.cell?_alloc_at _ _ _ _ rfl]; rfl
  have c4 : w4.cell? ⟨w1.heap.size + 1, 0, none⟩ = some (.func (.func 44) #[] #[.pointer (some ⟨w1.heap.size, 0, none⟩)]) := by
    rw [hw4]
    rw [World.cell?_alloc_at _ _ _ _ (by simp)]; rfl
  have hbel4 : Below M w w4 := by rw [hw4]; exact (hbel1.alloc (by omega) _).alloc (by simp; omega) _
  go_wp2_with (at_range; rw [← hw4]; refine wpList_range_own _ rfl _ 73 rfl 9 3 strLaw Try.underlying73 _ M P.length _ rfl hown4 ?_; intro w0 hrg0 hg0 hs0; go_frame)
  obtain ⟨g, hg⟩ : ∃ g, g = w1.heap.size := ⟨_, rfl⟩
  obtain ⟨R, hR⟩ : ∃ R, R = w4.heap.size := ⟨_, rfl⟩
  rw [← hg] at c3 c4 hsz4 hMl ⊢
  rw [← hR] at hrg0 hs0 hsz4 ⊢
  have HR := Lib.hid hR
  have HG := Lib.hid hsz4
  have hR2 : R ≤ g + 2 := by omega
  have hR3 : g + 2 ≤ R := by omega
  have hsz0 : g + 2 ≤ w0.heap.size := by omega
  have hbw0 : Below (g + 2) w4 w0 := (Below.refl _ w4).grown hg0 (by omega) (fun j hj => by cases hj)
  clear hw4 hown hg hR hsz4 hown4 hs0 hbel1
  go_loopw [5] (fun v wr => ∃ (left : Lit → Bool) (cnt : Nat) (ts : List (List UInt8)) (Av : Option Addr) (cv : Nat), v = .slice Av ts.length cv ∧ SOwn wr (g + 2) Av ts.length cv ts ∧ wr.ranges Try.prog 9 (plainElem Try.prog 3) M R P.length D left cnt ∧ Coll P left ts ∧ Below (g + 2) w4 wr ∧ g + 2 ≤ wr.heap.size) (fun _ wr => wr.rangeLeft M R)
  case atStart => exact ⟨_, _, [], none, 0, rfl, ROwn.nil _ _ _ _, hrg0, coll_start hD, hbw0, hsz0⟩
  case round =>
    clear hrg0 hbw0 hsz0
    obtain ⟨left, cnt, ts, Av, cv, rfl, hown, hrg, hC, hbel, hszr⟩ := hrel
    have htP : ∀ s ∈ ts, s ∈ P := fun s hs => Sym.count_mem ((hC.2 s).1 hs).1
    have htl := nodup_len hC.1 htP
    have HtP := Lib.hid htP
    clear htP
    go_wp2_with (at_next; refine wpList_next_ranges _ rfl _ rfl 9 strLaw (plainElem Try.prog 3) sval (Value.int .i64) (fun key kl hk => by obtain ⟨x, hx, _⟩ := Maps.keyOf_str Try.underlying9 hk; exact ⟨x, hx⟩) (fun v y hv => by obtain ⟨c, rfl, _⟩ := plainElem_int_inv Try.underlying3 hv; exact ⟨c, rfl⟩) M R P.length _ _ _ rfl hrg ?_ ?_)
    · intro hc0 hl0
      have d3 := (hbel.cell (p := ⟨g, 0, none⟩) (by simp)).trans c3
      have d4 := (hbel.cell (p := ⟨g + 1, 0, none⟩) (by simp)).trans c4
      have HS := sortFunc_any Av ts.length cv (g + 2) (g + 1) g M P ts wr hown (by omega) (by omega) (by omega) (by omega) (fun s hs => (hP8.out s (HtP.out s hs)).2) (by omega) hszr d4 d3 ⟨D, hrg.owns, hD⟩
      rw [coll_end hC hl0] at HS
      replace HS := Lib.hid HS
      have hsl : (Sym.srt P).length = ts.length := by rw [← coll_end hC hl0, List.length_mergeSort]
      have hcap := hown.cap
      have hlow := fun j (hj : blk Av = some j) => (hown.lt hj).1
      obtain ⟨k, hk⟩ : ∃ k, k = ts.length := ⟨_, rfl⟩
      rw [← hk] at HS hcap htl hsl ⊢
      obtain ⟨mm, hmm⟩ : ∃ mm, mm = min k 32 := ⟨_, rfl⟩
      have htr : (Sym.srt P).take mm = Sym.train P := by
        unfold Sym.train
        by_cases h : k ≤ 32
        · rw [List.take_of_length_le (by omega), List.take_of_length_le (by omega)]
        · rw [show mm = 32 from by omega]
      have htrl : (Sym.train P).length = mm := by rw [← htr, List.length_take]; omega
      have Htr := Lib.hid htr
      have Htrl := Lib.hid htrl
      have hmin : min (k : Int) 32 = (mm : Int) := by omega
      have hcut := run_cutStr_h Av k cv mm (by omega)
      have HK := fun (w5 : World) (h5 : SOwn w5 (g + 2) Av k cv (Sym.srt P)) => cloneStr_all Av mm cv w5.heap.size (Sym.train P) w5 htrl (by omega) (by rw [← htr]; exact h5.row.take mm) (Nat.le_refl _)
      replace HK := Lib.hid HK
      have hfar : ∀ j, blk Av = some j → g + 2 ≤ j := fun j hj => hlow j hj
      have Hfar := Lib.hid hfar
      clear hmm hk htr htrl hsl hlow hfar hC hown hrg c3 c4 d3 d4 hc0 hl0
      go_wp2_with fail
      refine HS.out.mono ?_
      rintro e w5 ⟨rfl, ho5, hg5⟩
      have hbel5 : Below (g + 2) w4 w5 := hbel.grown hg5 hszr (fun j hj => Hfar.out j hj)
      go_wp2_with fail
      refine (HK.out w5 ho5).mono ?_
      rintro e w6 ⟨A6, c6, rfl, ho6, hb6⟩
      have hsz5 : g + 2 ≤ w5.heap.size := Nat.le_trans hszr hg5.size
      have hbel6 : Below M w w6 := (hbel4.trans (hbel5.mono (by omega))).trans (hb6.mono (by omega))
      have ho6' := ho6.low (b' := M) (by omega)
      clear HS HK ho5 hg5 hb6 ho6 hcut
      go_wp2
      go_ret
      exact ⟨A6, c6, by rw [Htrl.out]; rfl, by rw [Htrl.out]; exact ho6', hbel6⟩
    · intro x c kl yd yp w2 cnt2 hkey hlk hv hat hrg2 hlt hg2 hs2 hen
      obtain ⟨x', ex, rfl, hxm⟩ := Maps.keyOf_str Try.underlying9 hkey
      obtain rfl : x = x' := encStr_inj ex
      clear ex hkey hxm hs2
      obtain ⟨c', hc', hyd, _⟩ := plainElem_int_inv Try.underlying3 hv
      injection hc' with _ hc'
      subst hc'
      have hxP : x ∈ P := by
        rcases Classical.em (x ∈ P) with h | h
        · exact h
        · have h1 := hD x
          unfold Sym.cnt at h1
          rw [if_neg h] at h1
          have h2 : Maps.has D (.string x) = true := has_true_of_atKey hat
          rw [h1] at h2
          cases h2
      have hcx : c = (P.count x : Int) := by
        have h1 := hD x
        unfold Sym.cnt at h1
        rw [if_pos hxP] at h1
        have h2 := h1.2
        rw [hat] at h2
        have h3 := congrArg Prod.fst hyd
        simp only at h3 h2
        rw [h3] at h2
        injection h2 with h2
        injection h2
      have hx8 := (hP8.out x hxP).2
      have hne : blk Av = none ∨ blk Av ≠ some R := .inr (fun h => row_ne_iter hown hrg (by rw [ownBlock_eq]; exact h.symm))
      have hown2 : SOwn w2 (g + 2) Av ts.length cv ts := hown.kept hg2 hne
      have hbel2 : Below (g + 2) w4 w2 := hbel.grown hg2 hszr (fun j hj => by cases hj; exact hR3)
      have hsz2 : g + 2 ≤ w2.heap.size := Nat.le_trans hszr hg2.size
      have Hme := Lib.hid (show wr.rangeLeft M R = cnt from hrg.left_eq)
      have Hlk := Lib.hid hlk
      have HC2 := Lib.hid hC
      clear hv hyd hat hlk hown hrg hC hg2 hne hbel
      simp only [sval] at hen ⊢
      by_cases hc2 : 2 ≤ P.count x
      · have hcc : (2 : Int) ≤ c := by omega
        have HN := Lib.hid (coll_more HC2.out Hlk.out hc2)
        have hone := (own_str w2 x).row
        have hoa := hown2.alloc (.cells #[.string ⟨x.toArray⟩] 9)
        have hba : Below (g + 2) w4 (w2.alloc (.cells #[.string ⟨x.toArray⟩] 9)) := hbel2.alloc hsz2 _
        have hra := hrg2.alloc (.cells #[.string ⟨x.toArray⟩] 9)
        have hsza : g + 2 ≤ (w2.alloc (.cells #[.string ⟨x.toArray⟩] 9)).heap.size := by simp; omega
        have Hcx := Lib.hid hcx
        clear hcx hown2 hbel2 hrg2 hc2
        go_wp2_with (at_builtin; refine wpList_append_row elemStr rfl (.tmp 21) (.tmp 23) rfl (g + 2) Av ts.length cv ts rfl hoa _ _ 1 1 [x] rfl rfl hone (by omega) (by simp only [maxLen]; omega) hsza ?_; intro A5 c5 w5 ho5 hg5 hat5; go_frame)
        have hneR : some R ≠ blk Av := fun h => row_ne_iter hoa hra (by rw [ownBlock_eq]; exact h)
        have hneM : some M ≠ blk Av := fun h => by have := (hoa.lt h.symm).1; omega
        have hrg5 := hra.kept hg5 hneM hneR
        have hbel5 : Below (g + 2) w4 w5 := hba.grown hg5 hsza (fun j hj => (hoa.lt hj).1)
        have hsz5 : g + 2 ≤ w5.heap.size := Nat.le_trans hsza hg5.size
        have Hl5 := Lib.hid (show (ts ++ [x]).length = ts.length + 1 from by simp)
        clear hg5 hat5 hoa hone hba hra hneR hneM hen
        go_roundw
        case rel => exact ⟨_, cnt2, ts ++ [x], A5, c5, by rw [Hl5.out], by rw [Hl5.out]; exact ho5, hrg5, HN.out, hbel5, hsz5⟩
        case measure => rw [hrg5.left_eq, Hme.out]; exact hlt
      · have hcc : ¬ ((2 : Int) ≤ c) := by omega
        have HN := Lib.hid (coll_same (x := x) HC2.out hc2)
        have Hcx := Lib.hid hcx
        clear hcx hc2
        go_wp2
        go_roundw
        case rel => exact ⟨_, cnt2, ts, Av, cv, rfl, hown2, hrg2, HN.out, hbel2, hsz2⟩
        case measure => rw [hrg2.left_eq, Hme.out]; exact hlt
end Go.Proofs.Ytoebeibmmclhpaa

/- sym.codesOf: the codes of a table's symbols. -/
namespace Go.Proofs.Ytoebeibmmclhpaa
open Go.RowKit Go.Maps
set_option maxRecDepth 100000
theorem zeroU8 (w : World) : (zeroValue 5).run Try.prog w = .ok (.int .u8 0) w := by kernel_rfl
namespace Sym
/-- the code of a string among the first k symbols -/
def codeIn (t : List (List UInt8)) (k : Nat) (s : List UInt8) : Option Int := if s ∈ t.take k then some (t.idxOf s : Int) else none
theorem codeIn_zero (t : List (List UInt8)) : codeIn t 0 = fun _ => none := by funext s; simp [codeIn]
theorem idxOf_at {t : List (List UInt8)} (hd : t.Nodup) {k : Nat} (hk : k < t.length) : t.idxOf t[k] = k := hd.idxOf_getElem k hk
theorem codeIn_step {t : List (List UInt8)} (hd : t.Nodup) {k : Nat} (hk : k < t.length) : (fun s' => if s' = t[k] then some (k : Int) else codeIn t k s') = codeIn t (k + 1) := by
  funext s
  unfold codeIn
  rw [List.take_succ_eq_append_getElem hk]
  by_cases h : s = t[k]
  · subst h
    rw [if_pos rfl, if_pos (List.mem_append.2 (.inr (List.mem_singleton.2 rfl))), idxOf_at hd hk]
  · rw [if_neg h]
    have : s ∈ t.take k ++ [t[k]] ↔ s ∈ t.take k := ⟨fun hm => (List.mem_append.1 hm).resolve_right (fun e => h (List.mem_singleton.1 e)), fun hm => List.mem_append.2 (.inl hm)⟩
    by_cases hm : s ∈ t.take k
    · rw [if_pos hm, if_pos (this.2 hm)]
    · rw [if_neg hm, if_neg (fun h => hm (this.1 h))]
theorem codeIn_all {t : List (List UInt8)} {s : List UInt8} : codeIn t t.length s = if s ∈ t then some (t.idxOf s : Int) else none := by unfold codeIn; rw [List.take_length]
end Sym
/-- block M knows the codes of the table t -/
def Codes (w : World) (M : Nat) (t : List (List UInt8)) : Prop := StrMap .u8 5 w M t.length (Sym.codeIn t t.length)
set_option maxHeartbeats 1000000 in
theorem codesOf_any (A : Option Addr) (n cap B : Nat) (t : List (List UInt8)) (w : World) (hl : t.length = n) (hf : Sym.Formed t) (h1 : Strs w B A t) (hB : B ≤ w.heap.size) :
    Calls Try.prog 51 #[.slice A n cap] w fun e w' => e = .returned (.map (some w.heap.size)) ∧ Codes w' w.heap.size t ∧ Below w.heap.size w w' := by
  have hn : n ≤ 32 := by rw [← hl]; exact hf.1
  have Hl := Lib.hid hl; clear hl
  have Hf := Lib.hid hf; clear hf
  have hmm := @run_makeMap Try.prog
  go_enter Try.func51, Try.ntmps51
  go_wp2
  go_loopw [9] (fun i wr => ∃ k : Nat, k ≤ n ∧ i = .int .i64 k ∧ StrMap .u8 5 wr w.heap.size k (Sym.codeIn t k) ∧ Below w.heap.size w wr) (fun i _ => n - (intOf i).toNat)
  case atStart => exact ⟨0, Nat.zero_le _, rfl, by rw [Sym.codeIn_zero]; exact StrMap.made _ _ _, (Below.refl _ _).alloc (Nat.le_refl _) _⟩
  case round =>
    obtain ⟨k, hk, rfl, hm, hbel⟩ := hrel
    by_cases hlt : k < n
    · have hk' : k < t.length := by have := Hl.out; omega
      have h1r := h1.below (hbel.mono hB)
      obtain ⟨ad1, rfl, _, hc1⟩ := h1r.get hk'
      have h8 := (Hf.out.2.1 _ (List.getElem_mem hk')).2
      have HS := Lib.hid (Sym.codeIn_step Hf.out.2.2 hk')
      obtain ⟨w1, hrun, hm1, hg1⟩ := run_put_strmap hm Try.underlying81 Try.underlying5 (by unfold maxLen; omega) (s := t[k]) (by unfold maxLen; omega) (v := (k : Int)) (WalkArith.wf_u8 (by omega))
      rw [HS.out] at hm1
      have hbel1 := hbel.grown hg1 hbel.size (fun j hj => by cases hj; exact Nat.le_refl _)
      simp only [sval] at hc1
      generalize t[k] = x at *
      clear hm hg1 h1r HS
      have hkk : ((k : Int) % 256) = (k : Int) := by omega
      have i1 : (k : Int) < (n : Int) := by omega
      go_wp2
      go_roundw
      case rel => exact ⟨k + 1, by omega, by go_num, hm1, hbel1⟩
      case measure => simp [intOf]; omega
    · obtain rfl : k = n := by omega
      have HC : Hid (Codes wr w.heap.size t) := Lib.hid (by unfold Codes; rw [Hl.out]; exact hm)
      clear hm
      go_wp2
      go_ret
      exact ⟨rfl, HC.out, hbel⟩
end Go.Proofs.Ytoebeibmmclhpaa

/- sym.Encode. -/
namespace Go.Proofs.Ytoebeibmmclhpaa
open Go.RowKit Go.Maps
set_option maxRecDepth 100000
/-- what a call leaves that returns bytes of its own and an error -/
def PairPost (w : World) (r : List UInt8 × Nat) (e : Ending) (w' : World) : Prop :=
  ∃ A c, e = .returned (.tuple #[.slice A r.1.length c, .int .i64 (r.2 : Int)]) ∧ Own w' w.heap.size A r.1.length c r.1 ∧ Below w.heap.size w w'
theorem PairPost.none {w w' : World} (e : Nat) (hb : Below w.heap.size w w') : PairPost w ([], e) (.returned (.tuple #[.slice none 0 0, .int .i64 (e : Int)])) w' := ⟨.none, 0, rfl, own_none _ _, hb⟩
/-- how long a slice is -/
def lenOf : Value → Nat
  | .slice _ n _ => n
  | _ => 0
theorem grown_of_drew {w w' : World} {row : Option Nat} (h : w.drew.grownBy w' row) : w.grownBy w' row := ⟨h.os, h.tape, h.output, h.size, h.block⟩
namespace Sym
/-- no symbol longer than j begins b -/
def Above (t : List (List UInt8)) (b : List UInt8) (j : Nat) : Prop := ∀ s ∈ t, s <+: b → s.length ≤ j
theorem above_first {t : List (List UInt8)} {b : List UInt8} (ht : Formed t) : Above t b (min b.length 8) := fun s hs hp => by
  have := hp.length_le
  have := (ht.2.1 s hs).2
  omega
theorem above_found {t : List (List UInt8)} {b : List UInt8} {j : Nat} (ha : Above t b j) (hj : j ≤ b.length) (hm : b.take j ∈ t) (ht : Formed t) : longest t b = some (t.idxOf (b.take j)) ∧ t.getD (t.idxOf (b.take j)) [] = b.take j := by
  have hk := List.idxOf_lt_length_of_mem hm
  have e : t[t.idxOf (b.take j)] = b.take j := List.getElem_idxOf hk
  refine ⟨longest_eq ht.2.2 ⟨hk, by rw [e]; exact List.take_prefix _ _, fun s hs hp => ?_⟩, by rw [getD_eq hk]; exact e⟩
  have hl : (b.take j).length = j := by simp; omega
  rw [e, hl]
  exact ha s hs hp
theorem above_step {t : List (List UInt8)} {b : List UInt8} {j : Nat} (ha : Above t b (j + 1)) (hm : b.take (j + 1) ∉ t) : Above t b j := fun s hs hp => by
  have := ha s hs hp
  rcases Nat.lt_or_ge j s.length with h | h
  · have e : s = b.take (j + 1) := by
      have e := List.prefix_iff_eq_take.1 hp
      rwa [show s.length = j + 1 from by omega] at e
    exact absurd (e ▸ hs) hm
  · exact h
theorem above_none {t : List (List UInt8)} {b : List UInt8} {j : Nat} (ha : Above t b j) (hj : j < 2) (ht : Formed t) : longest t b = none :=
  longest_eq ht.2.2 (fun s hs hp => by
    have := ha s hs hp
    have := (ht.2.1 s hs).1
    omega)
end Sym
set_option maxHeartbeats 4000000 in
theorem encode_any (A Ab : Option Addr) (n m cap capb B : Nat) (t : List (List UInt8)) (b : List UInt8) (w : World) (hl : t.length = n) (hcap : n ≤ cap) (hn : n ≤ 140737488355328) (hlb : b.length = m) (hcapb : m ≤ capb) (hm : m ≤ 70368744177664)
    (h1 : Strs w B A t) (hs : ∀ s ∈ t, s.length ≤ maxLen) (hb : Bytes w B Ab b) (hB : B ≤ w.heap.size) :
    Calls Try.prog 33 #[.slice A n cap, .slice Ab m capb] w (PairPost w (Sym.encoded t b)) := by
  have HF := formed_any A n cap B t w hl hcap hn h1 hs
  unfold Sym.encoded
  by_cases hf : Sym.Formed t
  · rw [Sym.formed_iff.2 hf] at HF
    rw [if_pos hf]
    replace HF := Lib.hid HF
    have HC := Lib.hid (codesOf_any A n cap B t w hl hf h1 hB)
    obtain ⟨M, hM⟩ : ∃ M, M = w.heap.size := ⟨_, rfl⟩
    rw [← hM] at HC
    have HM := Lib.hid hM
    have Hf := Lib.hid hf
    have hb' := hb.wide hB
    clear hl h1 hs hf hM hb
    go_enter Try.func33, Try.ntmps33
    go_wp2
    go_step3
    go_wp2_with fail
    refine HF.out.mono ?_
    rintro e w' ⟨rfl, rfl⟩
    clear HF
    go_wp2_with fail
    refine HC.out.mono ?_
    rintro e w1 ⟨rfl, hc1, hbel1⟩
    clear HC
    have hlt1 := hc1.lt
    have hb1 : Bytes w1 M Ab b := by rw [HM.out]; exact hb'.below (by rw [← HM.out]; exact hbel1)
    clear hb'
    go_wp2
    go_step3
    go_wp2
    go_loopg [1, 7] m (fun g bv ov wx => ∃ A1 c1 rest A2 c2 o, bv = .slice A1 g c1 ∧ rest.length = g ∧ g ≤ c1 ∧ Bytes wx M A1 rest ∧ ov = .slice A2 o.length c2 ∧ Own wx (M + 1) A2 o.length c2 o ∧ o ++ Sym.encode t rest = Sym.encode t b ∧ o.length + 2 * g ≤ 2 * m ∧ Codes wx M t ∧ Below M w wx ∧ M + 1 ≤ wx.heap.size)
    case atStart => exact ⟨Ab, capb, b, none, 0, [], rfl, hlb, hcapb, hb1, rfl, own_none _ _, rfl, by simp, hc1, hbel1, hlt1⟩
    case round =>
      obtain ⟨A1, c1, rest, A2, c2, o, rfl, hrl, hc1', hbr, rfl, hown, henc, hsz, hcd, hbel, hM1⟩ := hrel
      clear hb1 hc1 hbel1 hlt1
      obtain ⟨G, rfl⟩ : ∃ G, G = gk := ⟨_, rfl⟩
      obtain ⟨wx, rfl⟩ : ∃ wx, wx = wr := ⟨_, rfl⟩
      have HENC := Lib.hid henc; clear henc
      have HRL := Lib.hid hrl; clear hrl
      by_cases hg0 : G = 0
      · have hg1 : ¬ ((0 : Int) < (G : Int)) := by omega
        have HE : Hid (Sym.encode t b = o) := by
          have hr : rest = [] := List.eq_nil_of_length_eq_zero (HRL.out.trans hg0)
          have := HENC.out
          rw [hr, Sym.encode_nil, List.append_nil] at this
          exact Lib.hid this.symm
        have HB : Hid (Below w.heap.size w wx) := Lib.hid (by rw [← HM.out]; exact hbel)
        have HO : Hid (Own wx w.heap.size A2 o.length c2 o) := Lib.hid (hown.low (by rw [← HM.out]; omega))
        clear HENC HRL hbr hcd hbel hown
        go_wp2
        try rw [Exit.noGoto_ret]
        go_ret2
        exact ⟨A2, c2, by rw [HE.out]; rfl, by rw [HE.out]; exact HO.out, HB.out⟩
      · have hg1 : (0 : Int) < (G : Int) := by omega
        by_cases h8 : (G : Int) ≤ 8
        all_goals
          go_wp2
          go_loopg [1, 7, 8] (min G 8) (fun j bv ov i wy => bv = .slice A1 G c1 ∧ ov = .slice A2 o.length c2 ∧ i = .int .i64 (j : Int) ∧ j ≤ min G 8 ∧ Sym.Above t rest j ∧ wx = wy)
          case atStart => exact ⟨rfl, rfl, congrArg (Value.int IntKind.i64) (by omega), Nat.le_refl _, by have := Sym.above_first (b := rest) Hf.out; rwa [HRL.out] at this, rfl⟩
          case round =>
            obtain ⟨rfl, rfl, rfl, hj, hab, rfl⟩ := hrel
            obtain ⟨j, rfl⟩ : ∃ j, j = gk := ⟨_, rfl⟩
            by_cases hj2 : 2 ≤ j
            · have hj2' : (2 : Int) ≤ (j : Int) := by omega
              have hjr : j ≤ rest.length := by rw [HRL.out]; omega
              have htl : (rest.take j).length = j := by simp; omega
              have hcut := run_cut_h A1 G c1 j (by omega)
              have hcv := run_string_of (hbr.take j) c1
              rw [htl] at hcv
              have hlook := run_look_strmap hcd Try.underlying81 Try.underlying5 zeroU8 (s := rest.take j) (by unfold maxLen; omega)
              rw [Sym.codeIn_all] at hlook
              by_cases hmem : rest.take j ∈ t
              · obtain ⟨hlong, hgd⟩ := Sym.above_found hab hjr hmem Hf.out
                have hk32 : t.idxOf (rest.take j) < 32 := Nat.lt_of_lt_of_le (List.idxOf_lt_length_of_mem hmem) Hf.out.1
                have HEN := Lib.hid (Sym.encode_some hlong (by rw [hgd, htl]; omega))
                rw [hgd, htl] at HEN
                rw [if_pos hmem] at hlook
                simp only [Option.getD_some, Option.isSome_some] at hlook
                have hrest := hbr.cut (k := j) (cap := c1) hjr (by rw [HRL.out]; exact hc1')
                have HRL2 : Hid ((rest.drop j).length = G - j) := Lib.hid (by rw [List.length_drop, HRL.out])
                have hsl := run_cut_from A1 G c1 j (G - j) (by omega)
                generalize t.idxOf (rest.take j) = k at *
                generalize rest.take j = s at *
                have hone := own_byte wx (UInt8.ofNat k) (k : Int) (bval_lt (by omega))
                have hob := hone.bytes
                have hoa := hown.alloc (.cells #[.int .u8 (k : Int)] 5)
                have hba : Below M w (wx.alloc (.cells #[.int .u8 (k : Int)] 5)) := hbel.alloc (by omega) _
                have hsza : M + 1 ≤ (wx.alloc (.cells #[.int .u8 (k : Int)] 5)).heap.size := by simp; omega
                have hda : Codes (wx.alloc (.cells #[.int .u8 (k : Int)] 5)) M t := StrMap.kept hcd (World.grownBy_alloc _ _ none) (by simp)
                have hra : Bytes (wx.alloc (.cells #[.int .u8 (k : Int)] 5)) M (cutAt A1 c1 j) (rest.drop j) := hrest.below ((Below.refl M wx).alloc (by omega) _)
                generalize rest.drop j = rest2 at *
                have Htl := Lib.hid htl
                clear hlong hgd hone hmem hjr htl hrest
                go_wp2_with fail
                go_region_held3 (fun _ => True) (trivial) (first | (refine step_append_bytes (by rfl) (.tmp 36) (.tmp 38) (by rfl) (M + 1) A2 o.length c2 o (by rfl) (by exact hoa) _ _ 1 1 [UInt8.ofNat k] (by rfl) rfl (by exact hob) (by omega) (by exact hsza) ?_; intro A5 c5 w5 ho5 hg5 hat5))
                have hb5 : Below M w w5 := (hba.drew).grown (by exact hg5) (by exact Nat.le_trans (Nat.le_succ M) hsza) (fun q hq => Nat.le_of_succ_le (hoa.lt hq).1)
                have hr5 : Bytes w5 M (cutAt A1 c1 j) rest2 := hra.below (((Below.refl M _).drew).grown (by exact hg5) (by exact Nat.le_trans (Nat.le_succ M) hsza) (fun q hq => Nat.le_of_succ_le (hoa.lt hq).1))
                have hd5 : Codes w5 M t := StrMap.kept hda (grown_of_drew hg5) (fun h => by have := (hoa.lt h.symm).1; omega)
                have hM5 : M + 1 ≤ w5.heap.size := Nat.le_trans hsza hg5.size
                have hE5 : (o ++ [UInt8.ofNat k]) ++ Sym.encode t rest2 = Sym.encode t b := by rw [← HENC.out, HEN.out, List.append_assoc]; rfl
                have HE5 := Lib.hid hE5
                have Hl5 := Lib.hid (show (o ++ [UInt8.ofNat k]).length = o.length + 1 from by simp)
                clear hE5 hba hra hda hoa hob hg5 hat5 hsl hlook hcv hcut
                go_wp2
                go_roundg (G - j)
                case measure => omega
                case rel => exact ⟨cutAt A1 c1 j, c1 - j, rest2, A5, c5, o ++ [UInt8.ofNat k], rfl, HRL2.out, by omega, hr5, by rw [Hl5.out], by rw [Hl5.out]; exact ho5, HE5.out, by rw [Hl5.out]; omega, hd5, hb5, hM5⟩
              · rw [if_neg hmem] at hlook
                simp only [Option.getD_none, Option.isSome_none] at hlook
                have HAB : Hid (Sym.Above t rest (j - 1)) := Lib.hid (Sym.above_step (j := j - 1) (by rwa [show j - 1 + 1 = j from by omega]) (by rwa [show j - 1 + 1 = j from by omega]))
                generalize rest.take j = s at *
                clear hmem htl
                go_wp2
                go_roundg (j - 1)
                case measure => omega
                case rel => exact ⟨rfl, rfl, congrArg (Value.int IntKind.i64) (by omega), by omega, HAB.out, rfl⟩
            · have hj2' : ¬ ((2 : Int) ≤ (j : Int)) := by omega
              have HN := Lib.hid (Sym.above_none hab (by omega) Hf.out)
              obtain ⟨x, rest2, rfl⟩ : ∃ x r, rest = x :: r := by
                cases rest with
                | nil => exact absurd HRL.out.symm hg0
                | cons x r => exact ⟨x, r, rfl⟩
              have HEN := Lib.hid (Sym.encode_none HN.out)
              obtain ⟨ad, rfl, hblk, hcell⟩ := hbr.get (k := 0) (by simp)
              simp only [List.getElem_cons_zero] at hcell
              rw [show ad.add 0 = ad from by simp [Addr.add]] at hcell
              have hrest := hbr.cut (k := 1) (cap := c1) (by simp) (by rw [HRL.out]; exact hc1')
              rw [show (x :: rest2).drop 1 = rest2 from rfl] at hrest
              have HRL2 : Hid (rest2.length = G - 1) := Lib.hid (by have := HRL.out; simp at this; omega)
              have hsl : ∀ W : World, (Instr.slice 22 (.slice (some ad) G c1) (some (.int .i64 (1 : Int))) none none).run Try.prog W = .ok (.slice (cutAt (some ad) c1 1) (G - 1) (c1 - 1)) W := run_cut_from (some ad) G c1 1 (G - 1) (by omega)
              have hone := own_byte2 wx 255 x 255 (x.toNat : Int) rfl rfl
              have hob := hone.bytes
              have hoa := hown.alloc (.cells #[.int .u8 255, .int .u8 (x.toNat : Int)] 5)
              have hba : Below M w (wx.alloc (.cells #[.int .u8 255, .int .u8 (x.toNat : Int)] 5)) := hbel.alloc (by omega) _
              have hsza : M + 1 ≤ (wx.alloc (.cells #[.int .u8 255, .int .u8 (x.toNat : Int)] 5)).heap.size := by simp; omega
              have hda : Codes (wx.alloc (.cells #[.int .u8 255, .int .u8 (x.toNat : Int)] 5)) M t := StrMap.kept hcd (World.grownBy_alloc _ _ none) (by simp)
              have hra : Bytes (wx.alloc (.cells #[.int .u8 255, .int .u8 (x.toNat : Int)] 5)) M (cutAt (some ad) c1 1) rest2 := hrest.below ((Below.refl M wx).alloc (by omega) _)
              have hca : (wx.alloc (.cells #[.int .u8 255, .int .u8 (x.toNat : Int)] 5)).cell? ad = some (.int .u8 (x.toNat : Int)) := (((Below.refl M wx).alloc (by omega) _).cell hblk).trans hcell
              have hi0 : (0 : Int) < (G : Int) := by omega
              clear hone hrest HN hab hbr
              go_wp2_with fail
              go_region_held3 (fun w' => w'.cell? ad = some (.int .u8 (x.toNat : Int))) (first | exact hcell | exact hca | exact (((Below.refl M _).grown (grown_of_drew hg5) (by exact Nat.le_trans (Nat.le_succ M) hsza) (fun q hq => Nat.le_of_succ_le (hoa.lt hq).1)).cell hblk).trans hca) (first | (refine step_append_bytes (by rfl) (.tmp 43) (.tmp 47) (by rfl) (M + 1) A2 o.length c2 o (by rfl) (by exact hoa) _ _ 2 2 [255, x] (by rfl) rfl (by exact hob) (by omega) (by exact hsza) ?_; intro A5 c5 w5 ho5 hg5 hat5))
              have hb5 : Below M w w5 := (hba.drew).grown (by exact hg5) (by exact Nat.le_trans (Nat.le_succ M) hsza) (fun q hq => Nat.le_of_succ_le (hoa.lt hq).1)
              have hr5 : Bytes w5 M (cutAt (some ad) c1 1) rest2 := hra.below (((Below.refl M _).drew).grown (by exact hg5) (by exact Nat.le_trans (Nat.le_succ M) hsza) (fun q hq => Nat.le_of_succ_le (hoa.lt hq).1))
              have hd5 : Codes w5 M t := StrMap.kept hda (grown_of_drew hg5) (fun h => by have := (hoa.lt h.symm).1; omega)
              have hM5 : M + 1 ≤ w5.heap.size := Nat.le_trans hsza hg5.size
              have hE5 : (o ++ [255, x]) ++ Sym.encode t rest2 = Sym.encode t b := by rw [← HENC.out, HEN.out, List.append_assoc]; rfl
              have HE5 := Lib.hid hE5
              have Hl5 := Lib.hid (show (o ++ [255, x]).length = o.length + 2 from by simp)
              clear hE5 hba hra hda hoa hob hg5 hat5 hsl hca hcell
              go_wp2
              go_roundg (G - 1)
              case measure => omega
              case rel => exact ⟨cutAt (some ad) c1 1, c1 - 1, rest2, A5, c5, o ++ [255, x], rfl, HRL2.out, by omega, hr5, by rw [Hl5.out], by rw [Hl5.out]; exact ho5, HE5.out, by rw [Hl5.out]; omega, hd5, hb5, hM5⟩
  · rw [Sym.formed_not.2 hf] at HF
    rw [if_neg hf]
    replace HF := Lib.hid HF
    clear h1 hs hl hb hf
    go_enter Try.func33, Try.ntmps33
    go_wp2
    go_step3
    go_wp2_with fail
    refine HF.out.mono ?_
    rintro e w' ⟨rfl, rfl⟩
    clear HF
    go_wp2
    rw [Exit.noGoto_ret]
    go_ret2
    exact PairPost.none 1 (Below.refl _ _)
end Go.Proofs.Ytoebeibmmclhpaa

/- A string made bytes. -/
namespace Go.Proofs.Ytoebeibmmclhpaa
open Go.RowKit
set_option maxRecDepth 100000
theorem run_bytes_of (s : List UInt8) (W : World) : ∃ c W', s.length ≤ c ∧ (convert 9 22 (.string ⟨s.toArray⟩)).run Try.prog W = .ok (.slice (some ⟨W.heap.size, 0, none⟩) s.length c) W' ∧
    Bytes W' W'.heap.size (some ⟨W.heap.size, 0, none⟩) s ∧ Below W.heap.size W W' := by
  have hsz : (⟨s.toArray⟩ : ByteArray).size = s.length := by rw [ByteArray.size, List.size_toArray]
  have h := run_bytes_of_string (P := Try.prog) W 9 22 5 ⟨s.toArray⟩ Try.underlying9 Try.underlying22 Try.underlying5
  rw [hsz] at h
  refine ⟨_, _, grownCap_ge W _ _ _, h, fun hn => ⟨_, rfl, by simp, fun i hi => ?_⟩, (Below.refl _ W).drew.alloc (Nat.le_refl _) _⟩
  have hc : ∀ (C : Array Value) (m : Nat × Nat), (W.drew.alloc (.cells C 5 m)).cell? ⟨W.heap.size, i, none⟩ = C[i]? := fun C m => by
    have : (W.drew.alloc (.cells C 5 m)).heap[W.heap.size]? = some (.cells C 5 m) := by
      show (W.heap.push (.cells C 5 m))[W.heap.size]? = _
      simp
    simp only [World.cell?, this]
    rfl
  rw [show (⟨W.heap.size, 0, none⟩ : Addr).add i = ⟨W.heap.size, i, none⟩ from by by_cases h : i = 0 <;> simp [Addr.add, h], hc]
  simp [bytesRow, Array.getElem?_append, hi, bval]
end Go.Proofs.Ytoebeibmmclhpaa

/- sym.PutTable and the document's Table. -/
namespace Go.Proofs.Ytoebeibmmclhpaa
open Go.RowKit
set_option maxRecDepth 100000
namespace Sym
/-- the bytes of the first k symbols -/
def part (t : List (List UInt8)) (k : Nat) : List UInt8 := Num.num t.length ++ ((t.take k).map Num.row).flatten
theorem part_zero (t : List (List UInt8)) : part t 0 = Num.num t.length := by simp [part]
theorem part_all (t : List (List UInt8)) : part t t.length = table t := by rw [part, List.take_length, table]
theorem part_step {t : List (List UInt8)} {k : Nat} (hk : k < t.length) : part t (k + 1) = part t k ++ Num.row t[k] := by
  rw [part, part, List.take_succ_eq_append_getElem hk, List.map_append, List.flatten_append, List.append_assoc]
  simp
theorem part_le {t : List (List UInt8)} (ht : Formed t) (k : Nat) : (part t k).length ≤ 553 := by
  have h1 := table_length_le ht
  have h32 := ht.1
  have : (part t k).length ≤ (table t).length := by
    rw [part, table, List.length_append, List.length_append]
    have : (t.map Num.row).flatten = ((t.take k).map Num.row).flatten ++ ((t.drop k).map Num.row).flatten := by
      rw [← List.flatten_append, ← List.map_append, List.take_append_drop]
    rw [this, List.length_append]
    omega
  omega
/-- what PutTable answers -/
def putTable (b : List UInt8) (t : List (List UInt8)) : List UInt8 × Nat := if Formed t then (b ++ table t, 0) else ([], 1)
end Sym
set_option maxHeartbeats 2000000 in
theorem putTable_any (Ab A : Option Addr) (m n capb cap B : Nat) (b : List UInt8) (t : List (List UInt8)) (w : World) (hlb : b.length = m) (hl : t.length = n) (hcap : n ≤ cap) (hn : n ≤ 140737488355328) (hm : m ≤ 140737488351232)
    (hb : Bytes w B Ab b) (h1 : Strs w B A t) (hs : ∀ s ∈ t, s.length ≤ maxLen) (hB : B ≤ w.heap.size) :
    Calls Try.prog 32 #[.slice Ab m capb, .slice A n cap] w (PairPost w (Sym.putTable b t)) := by
  have HF := formed_any A n cap B t w hl hcap hn h1 hs
  unfold Sym.putTable
  by_cases hf : Sym.Formed t
  · rw [Sym.formed_iff.2 hf] at HF
    rw [if_pos hf]
    replace HF := Lib.hid HF
    have hn32 : n ≤ 32 := by rw [← hl]; exact hf.1
    have HP := put_any none 0 0 w.heap.size n [] w rfl (by omega) (by omega) (Bytes.nil _ _ _) (Nat.le_refl _)
    rw [Nat.zero_add, List.nil_append, ← Num.num_length, show Num.num n = Sym.part t 0 from by rw [Sym.part_zero, hl]] at HP
    replace HP := Lib.hid HP
    have Hf := Lib.hid hf
    have Hl := Lib.hid hl
    have Hlb := Lib.hid hlb
    have h1' := h1.wide hB
    have hb' := hb.wide hB
    clear hl h1 hs hf hb hlb
    go_enter Try.func32, Try.ntmps32
    go_wp2_with fail
    refine HF.out.mono ?_
    rintro e w' ⟨rfl, rfl⟩
    clear HF
    go_wp2_with fail
    refine HP.out.mono ?_
    rintro e w1 ⟨g1, c1, rfl, ho1, hbel1⟩
    clear HP
    go_wp2
    go_loopw [6, 18] (fun ev i wr => ∃ (k g c : Nat), k ≤ n ∧ i = .int .i64 k ∧ ev = .slice (some ⟨g, 0, none⟩) (Sym.part t k).length c ∧ Own wr w.heap.size (some ⟨g, 0, none⟩) (Sym.part t k).length c (Sym.part t k) ∧ Below w.heap.size w wr) (fun _ i _ => n - (intOf i).toNat)
    case atStart => exact ⟨0, g1, c1, Nat.zero_le _, rfl, rfl, ho1, hbel1⟩
    case round =>
      clear ho1 hbel1
      obtain ⟨k, g, c, hk, rfl, rfl, hown, hbel⟩ := hrel
      have hpl := Sym.part_le Hf.out k
      by_cases hlt : k < n
      · have hk' : k < t.length := by rw [Hl.out]; exact hlt
        have h1r := h1'.below hbel
        obtain ⟨ad, rfl, _, hcell⟩ := h1r.get hk'
        have h8 := (Hf.out.2.1 _ (List.getElem_mem hk')).2
        have HS := Lib.hid (Sym.part_step hk')
        simp only [sval] at hcell
        generalize t[k] = x at *
        obtain ⟨cx, wx, hcx, hcv, hbx, hblx⟩ := run_bytes_of x wr
        have hownx := hown.below hblx
        have HR := Lib.hid (putRow_any (some ⟨g, 0, none⟩) (some ⟨wr.heap.size, 0, none⟩) (Sym.part t k).length x.length c cx wx.heap.size wx.heap.size (Sym.part t k) x wx rfl rfl (by omega) (by omega) hownx.bytes hbx (Nat.le_refl _) (Nat.le_refl _))
        rw [← Num.row_length, ← List.length_append, ← HS.out] at HR
        have i1 : (k : Int) < (n : Int) := by omega
        have hszw := hbel.size
        generalize Sym.part t k = P at *
        clear h1r hownx hbx HS hown
        go_wp2_with fail
        refine HR.out.mono ?_
        rintro e w2 ⟨g2, c2, rfl, ho2, hb2⟩
        clear HR
        have hbel2 : Below w.heap.size w w2 := (hbel.trans (hblx.mono hszw)).trans (hb2.mono (Nat.le_trans hszw hblx.size))
        have ho2' := ho2.low (Nat.le_trans hszw hblx.size)
        clear hcv hb2 ho2 hblx
        go_wp2
        go_roundw
        case rel => exact ⟨k + 1, g2, c2, by omega, by go_num, rfl, ho2', hbel2⟩
        case measure => simp [intOf]; omega
      · obtain rfl : k = n := by omega
        have HT : Hid (Sym.part t k = Sym.table t) := Lib.hid (by have := Sym.part_all t; rwa [Hl.out] at this)
        rw [HT.out] at hown
        rw [HT.out] at hpl
        have hpos := Sym.table_pos t
        have hbr := hb'.below hbel
        have hszw := hbel.size
        have hbl2 : Below wr.heap.size wr (wr.alloc (.cells #[.slice Ab m capb, .slice (some ⟨g, 0, none⟩) (Sym.table t).length c] 22)) := (Below.refl _ _).alloc (Nat.le_refl _) _
        have hcA : (wr.alloc (.cells #[.slice Ab m capb, .slice (some ⟨g, 0, none⟩) (Sym.table t).length c] 22)).cell? ⟨wr.heap.size, 0, none⟩ = some (.slice Ab m capb) := by rw [World.cell?_alloc_at _ _ _ _ rfl]; rfl
        have hcB : (wr.alloc (.cells #[.slice Ab m capb, .slice (some ⟨g, 0, none⟩) (Sym.table t).length c] 22)).cell? ⟨wr.heap.size, 1, none⟩ = some (.slice (some ⟨g, 0, none⟩) (Sym.table t).length c) := by rw [World.cell?_alloc_at _ _ _ _ rfl]; rfl
        have H2 := concat2_any wr.heap.size m capb (Sym.table t).length c wr.heap.size Ab (some ⟨g, 0, none⟩) b (Sym.table t) _ Hlb.out rfl (by omega) (by omega) ((hbr.wide hszw).below hbl2) (hown.bytes.below hbl2) (by simp) (by simp) hcA hcB
        obtain ⟨N, hN⟩ : ∃ N, N = m + (Sym.table t).length := ⟨_, rfl⟩
        rw [← hN] at H2
        have HN : Hid (((b ++ Sym.table t, 0) : List UInt8 × Nat).1.length = N) := Lib.hid (by rw [hN, List.length_append, Hlb.out])
        replace H2 := Lib.hid H2
        clear hN
        rw [HT.out]
        generalize Sym.table t = T at *
        clear hcA hcB hbr hown HT
        go_wp2_with fail
        refine H2.out.mono ?_
        rintro e w2 ⟨g2, k2, rfl, ho2, hbel2⟩
        clear H2
        have hb3 := hbel.trans ((hbl2.trans (hbel2.mono (by simp))).mono hszw)
        have ho3 := ho2.low (b' := w.heap.size) (by simp; omega)
        clear hbl2 hbel2 ho2
        go_wp2
        go_ret2
        exact ⟨_, k2, by rw [HN.out]; rfl, by rw [HN.out]; exact ho3, hb3⟩
  · rw [Sym.formed_not.2 hf] at HF
    rw [if_neg hf]
    replace HF := Lib.hid HF
    clear h1 hs hl hb hf
    go_enter Try.func32, Try.ntmps32
    go_wp2_with fail
    refine HF.out.mono ?_
    rintro e w' ⟨rfl, rfl⟩
    clear HF
    go_wp2
    go_ret2
    exact PairPost.none 1 (Below.refl _ _)
end Go.Proofs.Ytoebeibmmclhpaa
