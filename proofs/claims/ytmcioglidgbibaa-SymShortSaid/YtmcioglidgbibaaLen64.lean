/- math/bits.Len64: how many bits a number has. -/
import Derived.Test.YtmcioglidgbibaaWords
import Derived.Test.YtmcioglidgbibaaNum
import Derived.Lib.BitFns
import Derived.WalkSpells
import Derived.WalkLawsBesides
namespace Go.Proofs.Ytmcioglidgbibaa
open Go.RowKit
set_option maxRecDepth 100000

/-- the end of each way: k bits were shifted out, a byte is left -/
theorem len_end {v : Nat} (k : Nat) (q : Int) (hv : v < 18446744073709551616) (h : 2 ^ k ≤ v) (hq : q = ((v / 2 ^ k : Nat) : Int)) (hz : v / 2 ^ k < 256)
    (hk : k ≤ 56) : wrap64 ((k : Int) + wrap64 (Lib.len8 q)) = (Lib.bitLen v : Int) := by
  rw [Lib.bitLen_shift k v h (by omega)]
  generalize v / 2 ^ k = y at hq hz
  subst hq
  have h8 := Lib.bitLen_le8 ⟨y, hz⟩
  simp only at h8
  rw [Lib.len8_of _ (by omega) (by omega), Int.toNat_natCast]
  unfold wrap64
  omega
theorem len_end0 {v : Nat} (hz : v < 256) : Lib.len8 (v : Int) = (Lib.bitLen v : Int) ∧ Lib.bitLen v ≤ 8 := by
  have h8 := Lib.bitLen_le8 ⟨v, hz⟩
  exact ⟨by rw [Lib.len8_of _ (by omega) (by omega), Int.toNat_natCast], h8⟩
theorem bitLen_le64 {v : Nat} (hv : v < 18446744073709551616) : Lib.bitLen v ≤ 64 := Lib.bitLen_le v 64 (Nat.le_refl _) (by omega)

set_option maxHeartbeats 1000000 in
theorem len64_any (v : Nat) (w : World) (hv : v < 18446744073709551616) :
    Calls Try.prog 70 #[.int .u64 (v : Int)] w fun e w' => e = .returned (.int .i64 (Lib.bitLen v : Int)) ∧ w = w' := by
  obtain ⟨x, hx, h0, h1⟩ : ∃ x : Int, x = (v : Int) ∧ 0 ≤ x ∧ x ≤ 18446744073709551615 := ⟨v, rfl, by omega, by omega⟩
  rw [← hx]
  have Hx := Lib.hid hx; clear hx
  have Hv := Lib.hid hv; clear hv
  go_enter Try.func70, Try.ntmps70
  conv in Value.string _ => change Value.string Lib.len8tab
  have hidx := fun (i : Int) (u : World) => Lib.run_index_len8tab (P := Try.prog) u 9 .u8 i Try.underlying9
  generalize Value.string Lib.len8tab = T at hidx ⊢
  go_wp2
  all_goals rw [hidx _ _ (by omega) (by omega)]
  all_goals go_wp2
  all_goals go_ret
  all_goals refine ⟨congrArg Ending.returned (congrArg (Value.int IntKind.i64) ?_), rfl⟩
  all_goals clear hidx
  all_goals have hx := Hx.out
  all_goals have hv := Hv.out
  all_goals subst hx
  · exact len_end 56 _ hv (by omega) (by omega) (by omega) (by omega)
  · exact len_end 48 _ hv (by omega) (by omega) (by omega) (by omega)
  · exact len_end 40 _ hv (by omega) (by omega) (by omega) (by omega)
  · exact len_end 32 _ hv (by omega) (by omega) (by omega) (by omega)
  · exact len_end 24 _ hv (by omega) (by omega) (by omega) (by omega)
  · exact len_end 16 _ hv (by omega) (by omega) (by omega) (by omega)
  · exact len_end 8 _ hv (by omega) (by omega) (by omega) (by omega)
  · obtain ⟨e1, e2⟩ := len_end0 (v := v) (by omega)
    rw [e1]
    unfold wrap64
    omega
end Go.Proofs.Ytmcioglidgbibaa
