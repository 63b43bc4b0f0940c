/- pfor.countExceptions, bodySize, bestWidth, packLowBits. -/
import Derived.Test.YtcknijkjacgnkaaPforFns
import Derived.Test.YtcknijkjacgnkaaBitsPack
import Derived.Test.YtcknijkjacgnkaaBitsNum
namespace Go.Proofs.Ytcknijkjacgnkaa
open Go.RowKit

theorem div_eq_zero_or (d v : Nat) : decide (d / 2 ^ v ≠ 0) = true ∧ d / 2 ^ v ≠ 0 ∨ decide (d / 2 ^ v ≠ 0) = false ∧ d / 2 ^ v = 0 := by
  by_cases h : d / 2 ^ v = 0
  · exact .inr ⟨decide_eq_false (fun hn => hn h), h⟩
  · exact .inl ⟨decide_eq_true h, h⟩

set_option maxHeartbeats 400000 in
theorem countExceptions_any (A : Option Addr) (n cap B v : Nat) (l : List UInt64) (w : World) (hl : l.length = n) (hn : n ≤ 1000000) (hv : v ≤ 64) (hb : Nums w B A l) :
    Calls Try.prog 50 #[.slice A n cap, .int .i64 (v : Int)] w fun e w' => e = .returned (.int .i64 (Pfor.cnt v l : Int)) ∧ w = w' := by
  have Hl := Lib.hid hl; clear hl
  go_enter Try.func50, Try.ntmps50
  go_wp2
  go_loopw [5, 10] (fun s i wr => ∃ (k C : Nat), k ≤ n ∧ i = .int .i64 k ∧ s = .int .i64 C ∧ C ≤ k ∧ C = Pfor.cnt v (l.take k) ∧ w = wr) (fun _ i _ => n - (intOf i).toNat)
  case atStart => exact ⟨0, 0, by omega, rfl, rfl, by omega, rfl, rfl⟩
  case round =>
    obtain ⟨k, C, hk, rfl, rfl, hCk, hC, rfl⟩ := hrel
    have HC := Lib.hid hC; clear hC
    by_cases hlt : k < n
    · have hk' : k < l.length := by have := Hl.out; omega
      obtain ⟨ad, rfl, hlt', hcell⟩ := hb.get hk'
      simp only [uval] at hcell
      obtain ⟨z, hz⟩ : ∃ z : Int, z = (l[k].toNat : Int) := ⟨_, rfl⟩
      have H1 := isException_any l[k].toNat v z w hz (Bits.u64_lt _) hv
      have Hs := Pfor.cnt_take_succ v hk'
      rw [← hz] at hcell
      clear hz
      rcases div_eq_zero_or l[k].toNat v with ⟨hd, h0⟩ | ⟨hd, h0⟩
      · rw [hd] at H1
        rw [if_neg h0] at Hs
        replace H1 := Lib.hid H1
        replace Hs := Lib.hid Hs
        clear hd h0
        go_wp2_with fail
        refine H1.out.mono ?_
        rintro e w1 ⟨rfl, rfl⟩
        clear H1
        go_wp2
        go_roundw
        case rel => exact ⟨k + 1, C + 1, by omega, by go_num, by go_num, by omega, by rw [Hs.out, HC.out], trivial⟩
        case measure => simp [intOf]; omega
      · rw [hd] at H1
        rw [if_pos h0] at Hs
        replace H1 := Lib.hid H1
        replace Hs := Lib.hid Hs
        clear hd h0
        go_wp2_with fail
        refine H1.out.mono ?_
        rintro e w1 ⟨rfl, rfl⟩
        clear H1
        go_wp2
        go_roundw
        case rel => exact ⟨k + 1, C, by omega, by go_num, by go_num, by omega, by rw [Hs.out, HC.out]; rfl, trivial⟩
        case measure => simp [intOf]; omega
    · obtain rfl : k = n := by omega
      go_wp2
      go_ret
      refine ⟨?_, rfl⟩
      rw [HC.out, List.take_of_length_le (by rw [Hl.out]; exact Nat.le_refl _)]
      rfl

set_option maxHeartbeats 400000 in
theorem bodySize_any (A : Option Addr) (n cap B v : Nat) (l : List UInt64) (w : World) (hl : l.length = n) (hn : n ≤ 32) (hv : v ≤ 64) (hb : Nums w B A l) (hB : B ≤ w.heap.size) :
    Calls Try.prog 65 #[.slice A n cap, .int .i64 (v : Int)] w fun e w' => e = .returned (.int .i64 (Pfor.bodySize v l : Int)) ∧ Below w.heap.size w w' := by
  have hb := hb.wide hB
  have hnv : n * v ≤ 32 * 64 := Nat.mul_le_mul hn hv
  have H0 := Lib.hid (ppackedSize_any n v w (by omega))
  have hS : Bits.size n v ≤ 256 := by unfold Bits.size; omega
  have hbs : Pfor.bodySize v l = Bits.size n v + (Pfor.excs v 0 l).length := by unfold Pfor.bodySize; rw [hl]
  rw [hbs]
  have Hl := Lib.hid hl; clear hl hnv hbs
  generalize Bits.size n v = S at *
  go_enter Try.func65, Try.ntmps65
  go_wp2_with fail
  refine H0.out.mono ?_
  rintro e w1 ⟨rfl, rfl⟩
  clear H0
  go_wp2
  go_loopw [5, 14] (fun s i wr => ∃ (k C : Nat), k ≤ n ∧ i = .int .i64 k ∧ s = .int .i64 ((S : Int) + C) ∧ C ≤ 10 * k ∧ C = (Pfor.excs v 0 (l.take k)).length ∧ Below w.heap.size w wr) (fun _ i _ => n - (intOf i).toNat)
  case atStart => exact ⟨0, 0, by omega, rfl, by go_num, by omega, rfl, Below.refl _ _⟩
  case round =>
    obtain ⟨k, C, hk, rfl, rfl, hCk, hC, hbel⟩ := hrel
    have HC := Lib.hid hC; clear hC
    have hbr := hb.below hbel
    by_cases hlt : k < n
    · have hk' : k < l.length := by have := Hl.out; omega
      obtain ⟨ad, rfl, hlt', hcell⟩ := hbr.get hk'
      simp only [uval] at hcell
      obtain ⟨z, hz, hz0, hz1⟩ : ∃ z : Int, z = (l[k].toNat : Int) ∧ 0 ≤ z ∧ z ≤ 18446744073709551615 := ⟨_, rfl, by omega, by have := Bits.u64_lt l[k]; omega⟩
      have H1 := isException_any l[k].toNat v z wr hz (Bits.u64_lt _) hv
      have H2 := fun w' => numberSize_any (l[k].toNat / 2 ^ v) (z / 2 ^ v) w' (shr_nat hz) (Pfor.div_lt _ _)
      have h9 := Num.size_le9 (Pfor.div_lt l[k] v)
      have Hs := congrArg List.length (Pfor.excs_take_succ v hk')
      rw [List.length_append, Pfor.exc_length] at Hs
      rw [← hz] at hcell
      clear hz
      rcases div_eq_zero_or l[k].toNat v with ⟨hd, h0⟩ | ⟨hd, h0⟩
      · rw [hd] at H1
        rw [if_neg h0] at Hs
        replace H1 := Lib.hid H1
        replace H2 := Lib.hid H2
        replace Hs := Lib.hid Hs
        clear hd h0
        generalize Num.size (l[k].toNat / 2 ^ v) = m at *
        go_wp2_with fail
        refine H1.out.mono ?_
        rintro e w1 ⟨rfl, rfl⟩
        clear H1
        go_wp2_with fail
        refine (H2.out _).mono ?_
        rintro e w2 ⟨rfl, hb2⟩
        clear H2
        go_wp2
        go_roundw
        case rel => exact ⟨k + 1, C + (1 + m), by omega, by go_num, by go_num, by omega, by rw [Hs.out, HC.out], hbel.trans (hb2.mono hbel.size)⟩
        case measure => simp [intOf]; omega
      · rw [hd] at H1
        rw [if_pos h0] at Hs
        replace H1 := Lib.hid H1
        replace Hs := Lib.hid Hs
        clear hd h0 H2 h9
        go_wp2_with fail
        refine H1.out.mono ?_
        rintro e w1 ⟨rfl, rfl⟩
        clear H1
        go_wp2
        go_roundw
        case rel => exact ⟨k + 1, C, by omega, by go_num, by go_num, by omega, by rw [Hs.out, HC.out]; rfl, hbel⟩
        case measure => simp [intOf]; omega
    · obtain rfl : k = n := by omega
      go_wp2
      go_ret
      refine ⟨?_, hbel⟩
      rw [HC.out, List.take_of_length_le (by rw [Hl.out]; exact Nat.le_refl _)]
      rfl
end Go.Proofs.Ytcknijkjacgnkaa
