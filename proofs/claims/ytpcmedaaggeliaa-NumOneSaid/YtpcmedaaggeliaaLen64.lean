/- math/bits.Len64: how many bits a number has. -/
import Derived.Test.YtpcmedaaggeliaaWords
import Derived.Test.YtpcmedaaggeliaaNum
import Derived.Lib.BitFns
import Derived.WalkSpells
import Derived.WalkLawsBesides
namespace Go.Proofs.Ytpcmedaaggeliaa
open Go.RowKit

/-- the end of each way: k bits were shifted out, a byte is left -/
theorem len_end {v : Nat} (k : Nat) (q : Int) (hv : v < 18446744073709551616) (h : 2 ^ k ≤ v) (hq : q = ((v / 2 ^ k : Nat) : Int)) (hz : v / 2 ^ k < 256)
    (hk : k ≤ 56) : wrap64 ((k : Int) + wrap64 (Lib.len8 q)) = (Lib.bitLen v : Int) := by
  rw [Lib.bitLen_shift k v h (by omega)]
  generalize v / 2 ^ k = y at hq hz
  subst hq
  have h8 := Lib.bitLen_le8 ⟨y, hz⟩
  simp only at h8
  rw [Lib.len8_of _ (by omega) (by omega), Int.toNat_natCast]
  unfold wrap64
  omega
theorem len_end0 {v : Nat} (hz : v < 256) : Lib.len8 (v : Int) = (Lib.bitLen v : Int) ∧ Lib.bitLen v ≤ 8 := by
  have h8 := Lib.bitLen_le8 ⟨v, hz⟩
  exact ⟨by rw [Lib.len8_of _ (by omega) (by omega), Int.toNat_natCast], h8⟩
theorem bitLen_le64 {v : Nat} (hv : v < 18446744073709551616) : Lib.bitLen v ≤ 64 := Lib.bitLen_le v 64 (Nat.le_refl _) (by omega)

set_option maxHeartbeats 1000000 in
theorem len64_any (v : Nat) (w : World) (hv : v < 18446744073709551616) :
    Calls Try.prog 35 #[.int .u64 (v : Int)] w fun e w' => e = .returned (.int .i64 (Lib.bitLen v : Int)) ∧ w = w' := by
  obtain ⟨x, hx, h0, h1⟩ : ∃ x : Int, x = (v : Int) ∧ 0 ≤ x ∧ x ≤ 18446744073709551615 := ⟨v, rfl, by omega, by omega⟩
  rw [← hx]
  have Hx := Lib.hid hx; clear hx
  have Hv := Lib.hid hv; clear hv
  go_enter Try.func35, Try.ntmps35
  conv in Value.string _ => change Value.string Lib.len8tab
  have hidx := fun (i : Int) (u : World) => Lib.run_index_len8tab (P := Try.prog) u 9 .u8 i Try.underlying9
  generalize Value.string Lib.len8tab = T at hidx ⊢
  go_wp2
  all_goals rw [hidx _ _ (by omega) (by omega)]
  all_goals go_wp2
  all_goals go_ret
  all_goals refine ⟨congrArg Ending.returned (congrArg (Value.int IntKind.i64) ?_), rfl⟩
  all_goals clear hidx
  all_goals have hx := Hx.out
  all_goals have hv := Hv.out
  all_goals subst hx
  · exact len_end 56 _ hv (by omega) (by omega) (by omega) (by omega)
  · exact len_end 48 _ hv (by omega) (by omega) (by omega) (by omega)
  · exact len_end 40 _ hv (by omega) (by omega) (by omega) (by omega)
  · exact len_end 32 _ hv (by omega) (by omega) (by omega) (by omega)
  · exact len_end 24 _ hv (by omega) (by omega) (by omega) (by omega)
  · exact len_end 16 _ hv (by omega) (by omega) (by omega) (by omega)
  · exact len_end 8 _ hv (by omega) (by omega) (by omega) (by omega)
  · obtain ⟨e1, e2⟩ := len_end0 (v := v) (by omega)
    rw [e1]
    unfold wrap64
    omega

/-- num.encodedSize -/
theorem encodedSize_any (v : Nat) (w : World) (hv : v < 18446744073709551616) :
    Calls Try.prog 32 #[.int .u64 (v : Int)] w fun e w' => e = .returned (.int .i64 (Num.size v : Int)) ∧ w = w' := by
  have H := Lib.hid (len64_any v w hv)
  have hs : Num.size v = if v ≤ 247 then 1 else 1 + (Lib.bitLen v + 7) / 8 := rfl
  have hle := bitLen_le64 hv
  obtain ⟨x, hx, h0, h1⟩ : ∃ x : Int, x = (v : Int) ∧ 0 ≤ x ∧ x ≤ 18446744073709551615 := ⟨v, rfl, by omega, by omega⟩
  rw [← hx] at H ⊢
  generalize Num.size v = s at hs
  generalize Lib.bitLen v = B at hs hle H
  by_cases hc : v ≤ 247
  · rw [if_pos hc] at hs
    subst hs
    have hc' : x ≤ 247 := by omega
    clear hx hv h1
    go_enter Try.func32, Try.ntmps32
    go_wp2
    go_ret
    exact ⟨rfl, rfl⟩
  · rw [if_neg hc] at hs
    subst hs
    have hc' : 247 < x := by omega
    clear hx hv hc
    go_enter Try.func32, Try.ntmps32
    go_wp2_with fail
    refine H.out.mono ?_
    rintro e w1 ⟨rfl, rfl⟩
    clear H
    go_wp2
    go_ret
    refine ⟨congrArg (fun z => Ending.returned (.int .i64 z)) ?_, rfl⟩
    omega
end Go.Proofs.Ytpcmedaaggeliaa
