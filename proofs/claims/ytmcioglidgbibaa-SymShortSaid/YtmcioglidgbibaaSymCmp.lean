/- The comparison by which sym.Train sorts. -/
import Derived.Test.YtmcioglidgbibaaSymCount
import Derived.Test.YtmcioglidgbibaaSymOrd
import Derived.Deep.QuietTactic
import Derived.BigQuiet
namespace Go.Proofs.Ytmcioglidgbibaa
open Go.RowKit
set_option maxRecDepth 100000

theorem less_eq : ∀ (x y : List UInt8), Op.bytesLess x y = decide (x < y)
  | [], [] => by simp [Op.bytesLess]
  | _ :: _, [] => by simp [Op.bytesLess]
  | [], _ :: _ => by simp [Op.bytesLess]
  | a :: x, b :: y => by
    rw [Op.bytesLess, less_eq x y]
    simp only [List.cons_lt_cons_iff]
    by_cases h1 : a < b <;> by_cases h2 : a = b <;> by_cases h3 : x < y <;> simp [h1, h2, h3]

theorem isNaNInt_any (x : Int) (w : World) : Calls Try.prog 50 #[.int .i64 x] w fun e w' => e = .returned (.bool false) ∧ w = w' := by
  have h : (x != x) = false := by simp
  go_enter Try.func50, Try.ntmps50
  go_wp2
  go_ret
  exact ⟨rfl, rfl⟩
theorem isNaNStr_any (x : List UInt8) (w : World) : Calls Try.prog 51 #[.string ⟨x.toArray⟩] w fun e w' => e = .returned (.bool false) ∧ w = w' := by
  have h : (x != x) = false := by simp
  go_enter Try.func51, Try.ntmps51
  go_wp2
  go_ret
  exact ⟨rfl, rfl⟩
/-- compared -/
def cmpI (x y : Int) : Int := if x < y then -1 else if y < x then 1 else 0
def cmpS (x y : List UInt8) : Int := if x < y then -1 else if y < x then 1 else 0
theorem compareInt_any (x y : Int) (w : World) : Calls Try.prog 30 #[.int .i64 x, .int .i64 y] w fun e w' => e = .returned (.int .i64 (cmpI x y)) ∧ w = w' := by
  by_cases h1 : x < y
  · have e : cmpI x y = -1 := by unfold cmpI; rw [if_pos h1]
    rw [e]
    clear e
    go_enter Try.func30, Try.ntmps30
    go_wp2_with (go_at_call 50; refine (isNaNInt_any _ _).mono ?_; rintro e w' ⟨rfl, rfl⟩)
    go_ret
    exact ⟨rfl, rfl⟩
  · by_cases h2 : y < x
    · have e : cmpI x y = 1 := by unfold cmpI; rw [if_neg h1, if_pos h2]
      rw [e]
      clear e
      go_enter Try.func30, Try.ntmps30
      go_wp2_with (go_at_call 50; refine (isNaNInt_any _ _).mono ?_; rintro e w' ⟨rfl, rfl⟩)
      go_ret
      exact ⟨rfl, rfl⟩
    · have e : cmpI x y = 0 := by unfold cmpI; rw [if_neg h1, if_neg h2]
      rw [e]
      clear e
      go_enter Try.func30, Try.ntmps30
      go_wp2_with (go_at_call 50; refine (isNaNInt_any _ _).mono ?_; rintro e w' ⟨rfl, rfl⟩)
      go_ret
      exact ⟨rfl, rfl⟩
theorem compareStr_any (x y : List UInt8) (w : World) : Calls Try.prog 31 #[.string ⟨x.toArray⟩, .string ⟨y.toArray⟩] w fun e w' => e = .returned (.int .i64 (cmpS x y)) ∧ w = w' := by
  by_cases h1 : x < y
  · have e : cmpS x y = -1 := by unfold cmpS; rw [if_pos h1]
    rw [e]
    have hl : Op.bytesLess x y = true := by rw [less_eq]; exact decide_eq_true h1
    clear e h1
    go_enter Try.func31, Try.ntmps31
    go_wp2_with (go_at_call 51; refine (isNaNStr_any _ _).mono ?_; rintro e w' ⟨rfl, rfl⟩)
    go_ret
    exact ⟨rfl, rfl⟩
  · have hl : Op.bytesLess x y = false := by rw [less_eq]; exact decide_eq_false h1
    by_cases h2 : y < x
    · have e : cmpS x y = 1 := by unfold cmpS; rw [if_neg h1, if_pos h2]
      rw [e]
      have hne : (x == y) = false := by
        rw [beq_eq_false_iff_ne]
        rintro rfl
        exact absurd h2 h1
      clear e h1 h2
      go_enter Try.func31, Try.ntmps31
      go_wp2_with (go_at_call 51; refine (isNaNStr_any _ _).mono ?_; rintro e w' ⟨rfl, rfl⟩)
      go_ret
      exact ⟨rfl, rfl⟩
    · have e : cmpS x y = 0 := by unfold cmpS; rw [if_neg h1, if_neg h2]
      rw [e]
      obtain rfl : x = y := List.le_antisymm (List.not_lt.1 h2) (List.not_lt.1 h1)
      have hne : (x == x) = true := by simp
      clear e h1 h2
      go_enter Try.func31, Try.ntmps31
      go_wp2_with (go_at_call 51; refine (isNaNStr_any _ _).mono ?_; rintro e w' ⟨rfl, rfl⟩)
      go_ret
      exact ⟨rfl, rfl⟩

theorem val_bound {P : List (List UInt8)} (hP : P.length ≤ 7168) {s : List UInt8} (hs : s.length ≤ 8) : -7168 ≤ Sym.val P s ∧ Sym.val P s ≤ 50176 := by
  have hc : P.count s ≤ P.length := List.count_le_length
  unfold Sym.val
  obtain ⟨c, hc'⟩ : ∃ c, c = P.count s := ⟨_, rfl⟩
  rw [← hc'] at hc ⊢
  have : s.length = 0 ∨ s.length = 1 ∨ s.length = 2 ∨ s.length = 3 ∨ s.length = 4 ∨ s.length = 5 ∨ s.length = 6 ∨ s.length = 7 ∨ s.length = 8 := by omega
  rcases this with h | h | h | h | h | h | h | h | h <;> rw [h] <;> omega

/-- sym.Train's value: what a piece is worth -/
theorem value_any (g M : Nat) (P : List (List UInt8)) (x : List UInt8) (w : World) (hP : P.length ≤ 7168) (hx : x.length ≤ 8) (hc : w.cell? ⟨g, 0, none⟩ = some (.map (some M))) (h : Counts w M P) :
    Calls Try.prog 27 #[.string ⟨x.toArray⟩, .pointer (some ⟨g, 0, none⟩)] w fun e w' => e = .returned (.int .i64 (Sym.val P x)) ∧ w = w' := by
  have hl := run_look1_strmap h Try.underlying45 Try.underlying3 zeroI64 (s := x) (by unfold maxLen; omega)
  rw [Sym.cnt_get] at hl
  have hb := val_bound hP hx
  have hv : Sym.val P x = ((x.length : Int) - 1) * (P.count x : Int) := rfl
  have hb1 : -7168 ≤ ((x.length : Int) - 1) * (P.count x : Int) := by rw [← hv]; exact hb.1
  have hb2 : ((x.length : Int) - 1) * (P.count x : Int) ≤ 50176 := by rw [← hv]; exact hb.2
  have Hv := Lib.hid hv
  clear h hv hb
  generalize P.count x = C at *
  go_enter Try.func27, Try.ntmps27
  go_wp2
  go_ret
  refine ⟨?_, rfl⟩
  rw [Hv.out]
  rfl

/-- what sym.Train's comparison answers -/
def cfT (P : List (List UInt8)) (x y : List UInt8) : Int := if cmpI (Sym.val P y) (Sym.val P x) ≠ 0 then cmpI (Sym.val P y) (Sym.val P x) else cmpS x y
theorem cfT_neg {P : List (List UInt8)} {x y : List UInt8} : cfT P x y < 0 ↔ Sym.ahead P x y = true := by
  rw [Sym.ahead_iff]
  unfold cfT cmpI cmpS
  by_cases h1 : Sym.val P y < Sym.val P x
  · rw [if_pos h1]; simp [h1]
  · rw [if_neg h1]
    by_cases h2 : Sym.val P x < Sym.val P y
    · rw [if_pos h2]
      simp [h1]
      omega
    · rw [if_neg h2]
      have e : Sym.val P y = Sym.val P x := by omega
      simp only [ne_eq, not_true_eq_false, if_false, e, true_and]
      by_cases h3 : x < y
      · rw [if_pos h3]; simp [h3]
      · rw [if_neg h3]
        simp only [h3, Int.lt_irrefl, false_or]
        split <;> simp

set_option maxHeartbeats 1000000 in
theorem compare_any (g4 g3 M : Nat) (P : List (List UInt8)) (x y : List UInt8) (w : World) (hP : P.length ≤ 7168) (hx : x.length ≤ 8) (hy : y.length ≤ 8)
    (c4 : w.cell? ⟨g4, 0, none⟩ = some (.func (.func 27) #[] #[.pointer (some ⟨g3, 0, none⟩)])) (c3 : w.cell? ⟨g3, 0, none⟩ = some (.map (some M))) (h : Counts w M P) :
    Calls Try.prog 29 #[.string ⟨x.toArray⟩, .string ⟨y.toArray⟩, .pointer (some ⟨g4, 0, none⟩)] w fun e w' => e = .returned (.int .i64 (cfT P x y)) ∧ ∃ q, w' = w.drewN q := by
  have HV := Lib.hid fun (s : List UInt8) (hs : s.length ≤ 8) (n : Nat) => value_any g3 M P s (w.drewN n) hP hs c3 (by exact h)
  have HC := Lib.hid fun (n : Nat) => compareInt_any (Sym.val P y) (Sym.val P x) (w.drewN n)
  have HS := Lib.hid fun (n : Nat) => compareStr_any x y (w.drewN n)
  unfold cfT
  obtain ⟨v, hv⟩ : ∃ v : List UInt8 → Int, v = Sym.val P := ⟨_, rfl⟩
  rw [← hv] at HC ⊢
  have HV2 : Hid (∀ (s : List UInt8), s.length ≤ 8 → ∀ n : Nat, Calls Try.prog 27 #[.string ⟨s.toArray⟩, .pointer (some ⟨g3, 0, none⟩)] (w.drewN n) fun e w' => e = .returned (.int .i64 (v s)) ∧ w.drewN n = w') := Lib.hid (by rw [hv]; exact HV.out)
  clear h hv HV
  by_cases hz : cmpI (v y) (v x) = 0
  · rw [if_neg (by simpa using hz)]
    rw [hz] at HC
    generalize cmpS x y = r at *
    clear hz
    go_enter Try.func29, Try.ntmps29
    go_wp2_with fail
    go_quiet ((first | (go_at_call 27; exact quiet_left (HV2.out _ (by assumption) _)) | (go_at_call 30; exact quiet_left (HC.out _))))
    go_wp2_with (go_at_call 31; refine (HS.out _).mono ?_; rintro e w' ⟨rfl, rfl⟩)
    go_ret
    exact ⟨rfl, _, rfl⟩
  · rw [if_pos hz]
    generalize cmpI (v y) (v x) = r at *
    have hz' : (r != 0) = true := by simpa using hz
    go_enter Try.func29, Try.ntmps29
    go_wp2_with fail
    go_quiet ((first | (go_at_call 27; exact quiet_left (HV2.out _ (by assumption) _)) | (go_at_call 30; exact quiet_left (HC.out _))))
    go_wp2
    go_ret
    exact ⟨rfl, _, rfl⟩
end Go.Proofs.Ytmcioglidgbibaa
