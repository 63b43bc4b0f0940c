/- What the laws on bits share: alive. -/
import Derived.Test.YtfnoadelcpkgnaaRefUnpack
import Derived.Test.YtfnoadelcpkgnaaCopy
import Derived.Test.YtfnoadelcpkgnaaBytesEq
namespace Go.Proofs.Ytfnoadelcpkgnaa
open Go.RowKit

theorem pack_123 : Bits.pack [1, 2, 3] 2 = ([57], 0) := by decide +kernel
theorem width_5 : Bits.width [5] = 3 := by decide +kernel

set_option maxHeartbeats 400000 in
theorem alive_any (w : World) : Calls Try.prog 9 #[] w fun e w' => e = .returned (.bool true) ∧ Below w.heap.size w w' := by
  have hlit : NOwn (w.alloc (.cells #[.int .u64 1, .int .u64 2, .int .u64 3] 41)) w.heap.size (some ⟨w.heap.size, 0, none⟩) 3 3 [1, 2, 3] :=
    ROwn.lit (f := uval) (e := 41) w w.heap.size [1, 2, 3] (Nat.le_refl _) (by simp only [maxLen, List.length_cons, List.length_nil]; omega)
  have hbel : Below w.heap.size w (w.alloc (.cells #[.int .u64 1, .int .u64 2, .int .u64 3] 41)) := (Below.refl _ _).alloc (Nat.le_refl _) _
  have H := pack_any _ 3 3 _ 2 [1, 2, 3] _ rfl (by omega) hlit.row (Nat.le_refl _)
  rw [pack_123] at H
  replace H := Lib.hid H
  clear hlit
  go_enter Try.func9, Try.ntmps9
  go_wp2_with fail
  refine H.out.mono ?_
  rintro e w1 ⟨A, c, rfl, ho, hb⟩
  clear H
  simp only [List.length_cons, List.length_nil, Nat.zero_add, Int.natCast_zero] at ho ⊢
  obtain ⟨g, rfl, _, _⟩ := ho.at_ (by omega)
  have c0 := ho.cell (k := 0) (by decide)
  change w1.cell? ⟨g, 0, none⟩ = some (.int .u8 57) at c0
  have hb' := hbel.trans (hb.mono hbel.size)
  have hone := nown_one w1 5 5 rfl
  have H2 := width_any _ 1 1 _ [5] _ rfl (by omega) hone.row
  rw [width_5] at H2
  replace H2 := Lib.hid H2
  have hb2 : Below w.heap.size w (w1.alloc (.cells #[.int .u64 5] 41)) := hb'.alloc hb'.size _
  clear ho hb hbel hone
  go_wp2_with fail
  refine H2.out.mono ?_
  rintro e w2 ⟨rfl, rfl⟩
  clear H2
  go_wp2
  go_ret
  exact ⟨rfl, hb2⟩
end Go.Proofs.Ytfnoadelcpkgnaa
