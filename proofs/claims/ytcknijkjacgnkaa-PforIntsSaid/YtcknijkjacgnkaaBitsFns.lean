/- bits.isWidth, bits.packedSize, bits.Width, bits.hasUnusedBit; the document's Size and Fits. -/
import Derived.Test.YtcknijkjacgnkaaNums
import Derived.Test.YtcknijkjacgnkaaLen64
import Derived.Test.YtcknijkjacgnkaaCuts
import Derived.Laws.BitsAllLaws
namespace Go.Proofs.Ytcknijkjacgnkaa
open Go.RowKit

theorem isWidth_any (z : Int) (w : World) : Calls Try.prog 68 #[.int .i64 z] w fun e w' => e = .returned (.bool (decide (0 ≤ z ∧ z ≤ 64))) ∧ w = w' := by
  by_cases h1 : 0 ≤ z
  · by_cases h2 : z ≤ 64
    · rw [decide_eq_true ⟨h1, h2⟩]
      go_enter Try.func68, Try.ntmps68
      go_wp2
      go_ret
      exact ⟨rfl, rfl⟩
    · rw [decide_eq_false (fun h => h2 h.2)]
      go_enter Try.func68, Try.ntmps68
      go_wp2
      go_ret
      exact ⟨rfl, rfl⟩
  · rw [decide_eq_false (fun h => h1 h.1)]
    go_enter Try.func68, Try.ntmps68
    go_wp2
    go_ret
    exact ⟨rfl, rfl⟩

theorem packedSize_any (n v : Nat) (w : World) (hp : n * v ≤ 1000000000000000) :
    Calls Try.prog 69 #[.int .i64 (n : Int), .int .i64 (v : Int)] w fun e w' => e = .returned (.int .i64 (Bits.size n v : Int)) ∧ w = w' := by
  have hs : (Bits.size n v : Int) = ((n : Int) * (v : Int) + 7) / 8 := by unfold Bits.size; rw [Int.natCast_ediv, Int.natCast_add, Int.natCast_mul]; rfl
  have hp0 : 0 ≤ (n : Int) * (v : Int) := Int.mul_nonneg (by omega) (by omega)
  have hp1 : (n : Int) * (v : Int) ≤ 1000000000000000 := by rw [← Int.natCast_mul]; omega
  clear hp
  go_enter Try.func69, Try.ntmps69
  go_wp2
  go_ret
  exact ⟨by rw [hs]; rfl, rfl⟩
theorem refSize_any (n v : Nat) (w : World) (hp : n * v ≤ 1000000000000000) :
    Calls Try.prog 35 #[.int .i64 (n : Int), .int .i64 (v : Int)] w fun e w' => e = .returned (.int .i64 (Bits.size n v : Int)) ∧ w = w' := by
  have hs : (Bits.size n v : Int) = ((n : Int) * (v : Int) + 7) / 8 := by unfold Bits.size; rw [Int.natCast_ediv, Int.natCast_add, Int.natCast_mul]; rfl
  have hp0 : 0 ≤ (n : Int) * (v : Int) := Int.mul_nonneg (by omega) (by omega)
  have hp1 : (n : Int) * (v : Int) ≤ 1000000000000000 := by rw [← Int.natCast_mul]; omega
  clear hp
  go_enter Try.func35, Try.ntmps35
  go_wp2
  go_ret
  exact ⟨by rw [hs]; rfl, rfl⟩

theorem or_nat {a b : Nat} {x y : Int} (hx : x = (a : Int)) (hy : y = (b : Int)) (ha : a < 18446744073709551616) (hb : b < 18446744073709551616) : bits .or .u64 x y = ((a ||| b : Nat) : Int) := by
  rw [hx, hy, u64_or_nat a b ha hb]

set_option maxHeartbeats 400000 in
theorem width_any (A : Option Addr) (n cap B : Nat) (l : List UInt64) (w : World) (hl : l.length = n) (hn : n ≤ 1000000) (hb : Nums w B A l) :
    Calls Try.prog 66 #[.slice A n cap] w fun e w' => e = .returned (.int .i64 (Bits.width l : Int)) ∧ w = w' := by
  have Hl := Lib.hid hl; clear hl
  have H := Lib.hid (len64_any (Bits.orAll l) w (Bits.orAll_lt l))
  go_enter Try.func66, Try.ntmps66
  go_wp2
  go_loopw [3, 8] (fun s i wr => ∃ (k : Nat) (y : Int), k ≤ n ∧ i = .int .i64 k ∧ s = .int .u64 y ∧ y = (Bits.orAll (l.take k) : Int) ∧ w = wr) (fun _ i _ => n - (intOf i).toNat)
  case atStart => exact ⟨0, 0, by omega, rfl, rfl, rfl, rfl⟩
  case round =>
    obtain ⟨k, y, hk, rfl, rfl, hy, rfl⟩ := hrel
    have Hy := Lib.hid hy; clear hy
    by_cases hlt : k < n
    · have hk' : k < l.length := by have := Hl.out; omega
      obtain ⟨ad, rfl, hlt', hcell⟩ := hb.get hk'
      simp only [uval] at hcell
      obtain ⟨x, hx⟩ : ∃ x : Int, x = (l[k].toNat : Int) := ⟨_, rfl⟩
      have Hor := or_nat Hy.out hx (Bits.orAll_lt _) (Bits.u64_lt _)
      rw [← Bits.orAll_snoc, ← List.take_succ_eq_append_getElem hk'] at Hor
      replace Hor := Lib.hid Hor
      rw [← hx] at hcell
      clear hx
      go_wp2
      go_roundw
      case rel => exact ⟨k + 1, _, by omega, by go_num, rfl, Hor.out, trivial⟩
      case measure => simp [intOf]; omega
    · obtain rfl : k = n := by omega
      have hy := Hy.out
      rw [List.take_of_length_le (by rw [Hl.out]; exact Nat.le_refl _)] at hy
      have H' := H.out
      rw [← hy] at H'
      replace H' := Lib.hid H'
      clear H hy
      go_wp2_with fail
      refine H'.out.mono ?_
      rintro e w1 ⟨rfl, rfl⟩
      go_wp2
      go_ret
      exact ⟨rfl, rfl⟩

theorem decide_unused {l : List UInt8} {u : Nat} {b : Bool} (h : b = true ↔ ¬ Num.val l < 2 ^ u) : b = decide (2 ^ u ≤ Num.val l) := by
  rw [Bool.eq_iff_iff, h, decide_eq_true_iff]
  omega
set_option maxHeartbeats 400000 in
theorem hasUnusedBit_any (A : Option Addr) (n cap B u : Nat) (l : List UInt8) (w : World) (hl : l.length = n) (hn : n = (u + 7) / 8) (hu : u ≤ 10000000) (hb : Bytes w B A l) :
    Calls Try.prog 70 #[.slice A n cap, .int .i64 (u : Int)] w fun e w' => e = .returned (.bool (decide (2 ^ u ≤ Num.val l))) ∧ w = w' := by
  by_cases h8 : u % 8 = 0
  · have hlt := Bits.used_all (b := l) (p := u) (by omega) h8
    rw [decide_eq_false (by omega)]
    have hrem : (u : Int) % 8 = 0 := by omega
    clear hlt h8 hl hb
    go_enter Try.func70, Try.ntmps70
    go_wp2
    go_ret
    exact ⟨rfl, rfl⟩
  · obtain ⟨hp, hiff⟩ := Bits.unused (b := l) (p := u) (by omega) h8
    obtain ⟨ad, rfl, _, hcell⟩ := hb.get hp
    have hb256 := Num.byte_lt l[u / 8]
    generalize l[u / 8].toNat = b at hcell hb256 hiff
    obtain ⟨j, rfl⟩ : ∃ j, n = j + 1 := ⟨n - 1, by omega⟩
    have hi : u / 8 = j := by omega
    rw [hi] at hcell
    have hrem : (u : Int) % 8 = ((u % 8 : Nat) : Int) := by omega
    have hs0 : 0 < u % 8 := by omega
    have hj : j ≤ 10000000 := by omega
    have hs8 : u % 8 < 8 := by omega
    rw [← decide_unused (b := decide (b / 2 ^ (u % 8) ≠ 0)) (by rw [decide_eq_true_iff, ← hiff])]
    generalize u % 8 = s at *
    clear hb hp hiff h8 hi hn hl
    go_enter Try.func70, Try.ntmps70
    go_wp2
    go_ret
    refine ⟨congrArg (fun z => Ending.returned (.bool z)) ?_, rfl⟩
    have e : (b : Int) / 2 ^ s = ((b / 2 ^ s : Nat) : Int) := by rw [Int.natCast_ediv, Int.natCast_pow]; rfl
    rw [e]
    generalize b / 2 ^ s = q
    have h1 : ((s : Int) != 0) = true := by simp; omega
    rw [h1, Bool.true_and, Bool.eq_iff_iff]
    simp

set_option maxHeartbeats 400000 in
theorem refFits_any (x v : Nat) (w : World) (hx : x < 18446744073709551616) (hv : v ≤ 64) :
    Calls Try.prog 64 #[.int .u64 (x : Int), .int .i64 (v : Int)] w fun e w' => e = .returned (.bool (decide (x < 2 ^ v))) ∧ w = w' := by
  by_cases h : v = 64
  · subst h
    rw [decide_eq_true (show x < 2 ^ 64 by omega)]
    obtain ⟨z, hz⟩ : ∃ z : Int, z = (x : Int) := ⟨x, rfl⟩
    rw [← hz]
    clear hx hz
    go_enter Try.func64, Try.ntmps64
    go_wp2
    go_ret
    exact ⟨rfl, rfl⟩
  · obtain ⟨z, hz, h0, h1⟩ : ∃ z : Int, z = (x : Int) ∧ 0 ≤ z ∧ z ≤ 18446744073709551615 := ⟨x, rfl, by omega, by omega⟩
    have hd : decide (x < 2 ^ v) = (z / 2 ^ v == 0) := by
      have e : z / 2 ^ v = ((x / 2 ^ v : Nat) : Int) := by rw [hz, Int.natCast_ediv, Int.natCast_pow]; rfl
      rw [e, Bool.eq_iff_iff, decide_eq_true_iff, beq_iff_eq]
      constructor
      · intro h; rw [Nat.div_eq_of_lt h]; rfl
      · intro h
        rcases Nat.lt_or_ge x (2 ^ v) with h1 | h1
        · exact h1
        · have := Nat.div_pos h1 (Nat.two_pow_pos v); omega
    have h64 : v < 64 := by omega
    rw [← hz, hd]
    clear hx hz hd h hv
    go_enter Try.func64, Try.ntmps64
    go_wp2
    go_ret
    refine ⟨congrArg (fun z => Ending.returned (.bool z)) ?_, rfl⟩
    rw [decide_eq_false (show ¬ (64 : Int) ≤ (v : Int) by omega), Bool.false_or]
end Go.Proofs.Ytcknijkjacgnkaa
