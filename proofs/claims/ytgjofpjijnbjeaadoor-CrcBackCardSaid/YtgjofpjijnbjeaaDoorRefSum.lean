/- dragnetref01.Sum: the document's sum, bit by bit. -/
import Derived.Test.YtgjofpjijnbjeaaDoorMore
namespace Go.Proofs.YtgjofpjijnbjeaaDoor
open Go.RowKit

theorem step_odd_val {Z : Nat} (hz : Z < 4294967296) (h : ((Z : Int) % 2 == 1) = true) : Value.int .u32 (bits .xor .u32 ((Z : Int) / 2) 2197175160) = .int .u32 ((Plain.step Z : Nat) : Int) := by
  have h1 : Z % 2 = 1 := by have := beq_iff_eq.1 h; omega
  have e : Plain.step Z = Z / 2 ^^^ 2197175160 := by unfold Plain.step; rw [if_pos h1]
  rw [e, show (Z : Int) / 2 = ((Z / 2 : Nat) : Int) from by omega]
  exact congrArg _ (u32_xor_nat (Z / 2) 2197175160 (by omega) (by omega))
theorem step_even_val {Z : Nat} (h : ((Z : Int) % 2 == 1) = false) : Value.int .u32 ((Z : Int) / 2) = .int .u32 ((Plain.step Z : Nat) : Int) := by
  have h1 : ¬ Z % 2 = 1 := by have := beq_eq_false_iff_ne.1 h; omega
  have e : Plain.step Z = Z / 2 := by unfold Plain.step; rw [if_neg h1]
  rw [e]
  exact congrArg _ (by omega)

set_option maxHeartbeats 400000 in
theorem refSum_any (A : Option Addr) (n cap B : Nat) (l : List UInt8) (w : World) (hl : l.length = n) (hn : n ≤ 140737488355328) (hb : Bytes w B A l) :
    Calls Tryd.prog 13 #[.slice A n cap] w fun e w' => e = .returned (.int .u32 ((Plain.sum l : Nat) : Int)) ∧ w = w' := by
  have Hl := Lib.hid hl; clear hl
  go_enter Tryd.func13, Tryd.ntmps13
  go_wp2
  go_loop [3, 4] (fun r i => ∃ k : Nat, k ≤ n ∧ i = .int .i64 k ∧ r = .int .u32 ((Plain.runs Plain.full (l.take k) : Nat) : Int)) (fun _ i => n - (intOf i).toNat)
  case atStart => exact ⟨0, Nat.zero_le _, rfl, rfl⟩
  case round =>
    obtain ⟨k, hk, rfl, rfl⟩ := hrel
    generalize hR : Plain.runs Plain.full (l.take k) = R
    have hRlt : R < 4294967296 := by rw [← hR]; exact Plain.runs_lt (by unfold Plain.full; omega) _
    have HR := Lib.hid hR; clear hR
    by_cases hlt : k < n
    · have hk' : k < l.length := by have := Hl.out; omega
      obtain ⟨ad, rfl, hblk, hcell⟩ := hb.get hk'
      generalize hbyte : l[k].toNat = b at hcell
      have hb256 : b < 256 := by rw [← hbyte]; exact Plain.byte_lt _
      have hXlt : R ^^^ b < 4294967296 := Nat.xor_lt_two_pow (n := 32) (by omega) (by omega)
      have hx1 : bits .xor .u32 (R : Int) (b : Int) = ((R ^^^ b : Nat) : Int) := u32_xor_nat _ _ (by omega) (by omega)
      have hnext : Plain.steps 8 (R ^^^ b) = Plain.runs Plain.full (l.take (k + 1)) := by
        rw [List.take_succ_eq_append_getElem hk', Plain.runs_snoc, HR.out, Plain.eat, hbyte]
      have Hbyte := Lib.hid hbyte; clear hbyte
      have Hnext := Lib.hid hnext; clear hnext
      generalize R ^^^ b = X at hXlt hx1 Hnext
      go_wp2
      go_loop [3, 5] (fun r i => ∃ j : Nat, j ≤ 8 ∧ i = .int .i64 j ∧ r = .int .u32 ((Plain.steps j X : Nat) : Int)) (fun _ i => 8 - (intOf i).toNat)
      case atStart => exact ⟨0, by omega, rfl, rfl⟩
      case round =>
        obtain ⟨j, hj, rfl, rfl⟩ := hrel
        have hZlt := Plain.steps_lt hXlt j
        have hs := Plain.steps_succ j X
        generalize hZ : Plain.steps j X = Z at hZlt hs
        have HZ := Lib.hid hZ; clear hZ
        have Hs := Lib.hid hs; clear hs
        by_cases hj8 : j < 8
        · go_wp2
          all_goals
            go_round
            case rel => exact ⟨j + 1, by omega, by go_num, by rw [Hs.out]; first | exact step_odd_val hZlt ‹_› | exact step_even_val ‹_›⟩
            case measure => simp [intOf]; omega
        · obtain rfl : j = 8 := by omega
          have hfin : Z = Plain.runs Plain.full (l.take (k + 1)) := by rw [← HZ.out, Hnext.out]
          have Hfin := Lib.hid hfin; clear hfin
          go_wp2
          go_round
          case rel => exact ⟨k + 1, by omega, by go_num, by rw [Hfin.out]⟩
          case measure => simp [intOf]; omega
    · obtain rfl : k = n := by omega
      have hRl : Plain.sum l = Plain.full - R := by
        unfold Plain.sum
        rw [← HR.out, List.take_of_length_le (by have := Hl.out; omega)]
      have HRl := Lib.hid hRl; clear hRl
      go_wp2
      go_ret
      refine ⟨?_, rfl⟩
      rw [HRl.out]
      exact congrArg (fun x : Int => Ending.returned (.int .u32 x)) (by unfold Plain.full; omega)
end Go.Proofs.YtgjofpjijnbjeaaDoor
