/- num.encodedSize -/
import Derived.Test.YtmcioglidgbibaaLen64
namespace Go.Proofs.Ytmcioglidgbibaa
open Go.RowKit
set_option maxRecDepth 100000

/-- num.encodedSize -/
theorem encodedSize_any (v : Nat) (w : World) (hv : v < 18446744073709551616) :
    Calls Try.prog 55 #[.int .u64 (v : Int)] w fun e w' => e = .returned (.int .i64 (Num.size v : Int)) ∧ w = w' := by
  have H := Lib.hid (len64_any v w hv)
  have hs : Num.size v = if v ≤ 247 then 1 else 1 + (Lib.bitLen v + 7) / 8 := rfl
  have hle := bitLen_le64 hv
  obtain ⟨x, hx, h0, h1⟩ : ∃ x : Int, x = (v : Int) ∧ 0 ≤ x ∧ x ≤ 18446744073709551615 := ⟨v, rfl, by omega, by omega⟩
  rw [← hx] at H ⊢
  generalize Num.size v = s at hs
  generalize Lib.bitLen v = B at hs hle H
  by_cases hc : v ≤ 247
  · rw [if_pos hc] at hs
    subst hs
    have hc' : x ≤ 247 := by omega
    clear hx hv h1
    go_enter Try.func55, Try.ntmps55
    go_wp2
    go_ret
    exact ⟨rfl, rfl⟩
  · rw [if_neg hc] at hs
    subst hs
    have hc' : 247 < x := by omega
    clear hx hv hc
    go_enter Try.func55, Try.ntmps55
    go_wp2_with fail
    refine H.out.mono ?_
    rintro e w1 ⟨rfl, rfl⟩
    clear H
    go_wp2
    go_ret
    refine ⟨congrArg (fun z => Ending.returned (.int .i64 z)) ?_, rfl⟩
    omega
end Go.Proofs.Ytmcioglidgbibaa
