/- num.Fold, num.Unfold and the document's: integers as numbers. -/
import Derived.Test.YtcknijkjacgnkaaNum
import Derived.Test.YtcknijkjacgnkaaProg
import Derived.WalkKit
import Derived.Lib.Hide
import Derived.WalkSpells
import Derived.WalkLawsBesides
namespace Go.Proofs.Ytcknijkjacgnkaa
open Go.RowKit

theorem fold_nonneg {n : Int} (h : 0 ≤ n) : (Num.fold n : Int) = 2 * n := by unfold Num.fold; rw [if_pos h]; omega
theorem fold_neg {n : Int} (h : n < 0) : (Num.fold n : Int) = -2 * n - 1 := by unfold Num.fold; rw [if_neg (by omega)]; omega
theorem unfold_even {v : Nat} {x : Int} (hx : x = (v : Int)) (h : x % 2 = 0) : Num.unfold v = x / 2 := by unfold Num.unfold; rw [if_pos (by omega)]; omega
theorem unfold_odd {v : Nat} {x : Int} (hx : x = (v : Int)) (h : x % 2 = 1) : Num.unfold v = -(x / 2) - 1 := by unfold Num.unfold; rw [if_neg (by omega)]; omega

theorem fold_any (n : Int) (w : World) (h0 : -9223372036854775808 ≤ n) (h1 : n ≤ 9223372036854775807) :
    Calls Try.prog 42 #[.int .i64 n] w fun e w' => e = .returned (.int .u64 (Num.fold n : Int)) ∧ w = w' := by
  by_cases hn : n < 0
  · rw [fold_neg hn]
    go_enter Try.func42, Try.ntmps42
    go_wp2
    go_ret
    refine ⟨congrArg (fun z => Ending.returned (.int .u64 z)) ?_, rfl⟩
    omega
  · rw [fold_nonneg (by omega)]
    have hn' : 0 ≤ n := by omega
    go_enter Try.func42, Try.ntmps42
    go_wp2
    go_ret
    refine ⟨congrArg (fun z => Ending.returned (.int .u64 z)) ?_, rfl⟩
    omega
theorem refFold_any (n : Int) (w : World) (h0 : -9223372036854775808 ≤ n) (h1 : n ≤ 9223372036854775807) :
    Calls Try.prog 63 #[.int .i64 n] w fun e w' => e = .returned (.int .u64 (Num.fold n : Int)) ∧ w = w' := by
  by_cases hn : n < 0
  · rw [fold_neg hn]
    go_enter Try.func63, Try.ntmps63
    go_wp2
    go_ret
    refine ⟨congrArg (fun z => Ending.returned (.int .u64 z)) ?_, rfl⟩
    omega
  · rw [fold_nonneg (by omega)]
    have hn' : 0 ≤ n := by omega
    go_enter Try.func63, Try.ntmps63
    go_wp2
    go_ret
    refine ⟨congrArg (fun z => Ending.returned (.int .u64 z)) ?_, rfl⟩
    omega
theorem unfold_any (v : Nat) (w : World) (hv : v < 18446744073709551616) :
    Calls Try.prog 43 #[.int .u64 (v : Int)] w fun e w' => e = .returned (.int .i64 (Num.unfold v)) ∧ w = w' := by
  obtain ⟨x, hx, h0, h1⟩ : ∃ x : Int, x = (v : Int) ∧ 0 ≤ x ∧ x ≤ 18446744073709551615 := ⟨v, rfl, by omega, by omega⟩
  rw [← hx]
  rcases Int.emod_two_eq x with h | h
  · rw [unfold_even hx h]
    clear hx hv
    go_enter Try.func43, Try.ntmps43
    go_wp2
    go_ret
    refine ⟨congrArg (fun z => Ending.returned (.int .i64 z)) ?_, rfl⟩
    omega
  · rw [unfold_odd hx h]
    clear hx hv
    go_enter Try.func43, Try.ntmps43
    go_wp2
    go_ret
    refine ⟨congrArg (fun z => Ending.returned (.int .i64 z)) ?_, rfl⟩
    omega
theorem refUnfold_any (v : Nat) (w : World) (hv : v < 18446744073709551616) :
    Calls Try.prog 62 #[.int .u64 (v : Int)] w fun e w' => e = .returned (.int .i64 (Num.unfold v)) ∧ w = w' := by
  obtain ⟨x, hx, h0, h1⟩ : ∃ x : Int, x = (v : Int) ∧ 0 ≤ x ∧ x ≤ 18446744073709551615 := ⟨v, rfl, by omega, by omega⟩
  rw [← hx]
  rcases Int.emod_two_eq x with h | h
  · rw [unfold_even hx h]
    clear hx hv
    go_enter Try.func62, Try.ntmps62
    go_wp2
    go_ret
    refine ⟨congrArg (fun z => Ending.returned (.int .i64 z)) ?_, rfl⟩
    omega
  · rw [unfold_odd hx h]
    clear hx hv
    go_enter Try.func62, Try.ntmps62
    go_wp2
    go_ret
    refine ⟨congrArg (fun z => Ending.returned (.int .i64 z)) ?_, rfl⟩
    omega
end Go.Proofs.Ytcknijkjacgnkaa
