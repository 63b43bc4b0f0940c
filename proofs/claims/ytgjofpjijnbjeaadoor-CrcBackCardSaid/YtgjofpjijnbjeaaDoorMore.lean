/- crc.More and crc.Sum: for every byte slice and every register they return what the shifts give, and change nothing; where the program's table lies as its text lays it. -/
import Derived.Test.YtgjofpjijnbjeaaDoorWords
import Derived.Laws.BitsAllLaws
import Derived.WalkSpells
import Derived.WalkLawsBesides
namespace Go.Proofs.YtgjofpjijnbjeaaDoor
open Go.RowKit

/-- the table of four shifts lies where the program laid it -/
def Table (w : World) : Prop := ∀ i, i < 16 → w.cell? ⟨0, i, none⟩ = some (.int .u32 ((Plain.tab.getD i 0 : Nat) : Int))

theorem u32_xor_div (x t : Nat) (hx : x < 4294967296) (ht : t < 4294967296) : bits .xor .u32 ((x : Int) / 16) (t : Int) = ((x / 16 ^^^ t : Nat) : Int) := by
  rw [show (x : Int) / 16 = ((x / 16 : Nat) : Int) from by omega]
  exact u32_xor_nat _ _ (by omega) ht
theorem u32_and_15 (x : Nat) (hx : x < 4294967296) : bits .and .u32 (x : Int) 15 = ((x % 16 : Nat) : Int) := by
  have h := u32_and_nat x 15 hx (by omega)
  rw [show x &&& 15 = x % 16 from Nat.and_two_pow_sub_one_eq_mod x 4] at h
  exact h
theorem full_xor (x : Nat) (h : x < 4294967296) : 4294967295 ^^^ x = 4294967295 - x := by
  have hm : (4294967295 ^^^ x) % 2 ^ 32 = 4294967295 ^^^ x := Nat.mod_eq_of_lt (Nat.xor_lt_two_pow (n := 32) (by omega) (by omega))
  have hb : BitVec.ofNat 32 (4294967295 ^^^ x) = BitVec.allOnes 32 ^^^ BitVec.ofNat 32 x := by
    apply BitVec.eq_of_toNat_eq
    rw [BitVec.toNat_xor, BitVec.toNat_ofNat, BitVec.toNat_ofNat, BitVec.toNat_allOnes, hm, Nat.mod_eq_of_lt (by omega : x < 2 ^ 32)]
  have h2 := congrArg BitVec.toNat hb
  rw [BitVec.allOnes_xor, BitVec.toNat_not, BitVec.toNat_ofNat, BitVec.toNat_ofNat, hm, Nat.mod_eq_of_lt (by omega : x < 2 ^ 32)] at h2
  exact h2
theorem u32_not (x : Nat) (h : x < 4294967296) : bits .xor .u32 IntKind.u32.max (x : Int) = ((Plain.full - x : Nat) : Int) := by
  have e : IntKind.u32.max = ((4294967295 : Nat) : Int) := by decide
  rw [e, u32_xor_nat _ _ (by omega) h, full_xor x h]
  rfl

set_option maxHeartbeats 400000 in
theorem more_any (c : Nat) (A : Option Addr) (n cap B : Nat) (l : List UInt8) (w : World) (hc : c < 4294967296) (hl : l.length = n) (hn : n ≤ 140737488355328)
    (hb : Bytes w B A l) (ht : Table w) :
    Calls Tryd.prog 14 #[.int .u32 (c : Int), .slice A n cap] w fun e w' => e = .returned (.int .u32 ((Plain.more c l : Nat) : Int)) ∧ w = w' := by
  have hfc : Plain.full - c < 4294967296 := by unfold Plain.full; omega
  have Hl := Lib.hid hl; clear hl
  have hc0 := u32_not c hc
  go_enter Tryd.func14, Tryd.ntmps14
  go_wp2
  go_loop [5, 12] (fun r i => ∃ k : Nat, k ≤ n ∧ i = .int .i64 k ∧ r = .int .u32 ((Plain.runs (Plain.full - c) (l.take k) : Nat) : Int)) (fun _ i => n - (intOf i).toNat)
  case atStart => exact ⟨0, Nat.zero_le _, rfl, rfl⟩
  case round =>
    obtain ⟨k, hk, rfl, rfl⟩ := hrel
    generalize hR : Plain.runs (Plain.full - c) (l.take k) = R
    have hRlt : R < 4294967296 := by rw [← hR]; exact Plain.runs_lt hfc _
    have HR := Lib.hid hR; clear hR hc0
    by_cases hlt : k < n
    · have hk' : k < l.length := by have := Hl.out; omega
      obtain ⟨ad, rfl, hblk, hcell⟩ := hb.get hk'
      generalize hbyte : l[k].toNat = b at hcell
      have hb256 : b < 256 := by rw [← hbyte]; exact Plain.byte_lt _
      have hXlt : R ^^^ b < 4294967296 := Nat.xor_lt_two_pow (n := 32) (by omega) (by omega)
      have hx1 : bits .xor .u32 (R : Int) (b : Int) = ((R ^^^ b : Nat) : Int) := u32_xor_nat _ _ (by omega) (by omega)
      have hnext : Plain.steps 8 (R ^^^ b) = Plain.runs (Plain.full - c) (l.take (k + 1)) := by
        rw [List.take_succ_eq_append_getElem hk', Plain.runs_snoc, HR.out, Plain.eat, hbyte]
      have Hbyte := Lib.hid hbyte; clear hbyte
      generalize R ^^^ b = X at hXlt hx1 hnext
      have hX2lt := Plain.steps_lt hXlt 4
      have ha1 := u32_and_15 X hXlt
      have ht1 := ht (X % 16) (by omega)
      have hx2 := u32_xor_div X (Plain.tab.getD (X % 16) 0) hXlt (Plain.tab_lt _)
      rw [Plain.nibble] at hx2
      have ha2 := u32_and_15 (Plain.steps 4 X) hX2lt
      have ht2 := ht (Plain.steps 4 X % 16) (by omega)
      have hx3 := u32_xor_div (Plain.steps 4 X) (Plain.tab.getD (Plain.steps 4 X % 16) 0) hX2lt (Plain.tab_lt _)
      rw [Plain.nibbles, hnext] at hx3
      have hi1 : X % 16 < 16 := by omega
      have hi2 : Plain.steps 4 X % 16 < 16 := by omega
      generalize Plain.tab.getD (X % 16) 0 = T1 at ht1 hx2
      generalize X % 16 = Y1 at ha1 ht1 hi1
      generalize Plain.tab.getD (Plain.steps 4 X % 16) 0 = T2 at ht2 hx3
      generalize Plain.steps 4 X % 16 = Y2 at ha2 ht2 hi2
      clear hnext
      generalize Plain.steps 4 X = X2 at hx2 ha2 hx3 hX2lt
      clear hb ht
      go_wp2
      go_round
      case rel => exact ⟨k + 1, by omega, by go_num, rfl⟩
      case measure => simp [intOf]; omega
    · obtain rfl : k = n := by omega
      have hz := u32_not R hRlt
      have hRl : Plain.more c l = Plain.full - R := by
        unfold Plain.more
        rw [← HR.out, List.take_of_length_le (by have := Hl.out; omega)]
      have HRl := Lib.hid hRl; clear hRl
      go_wp2
      go_ret
      exact ⟨congrArg (fun x : Nat => Ending.returned (.int .u32 (x : Int))) HRl.out.symm, rfl⟩

theorem sum_any (A : Option Addr) (n cap B : Nat) (l : List UInt8) (w : World) (hl : l.length = n) (hn : n ≤ 140737488355328)
    (hb : Bytes w B A l) (ht : Table w) :
    Calls Tryd.prog 12 #[.slice A n cap] w fun e w' => e = .returned (.int .u32 ((Plain.sum l : Nat) : Int)) ∧ w = w' := by
  have H := Lib.hid (more_any 0 A n cap B l w (by omega) hl hn hb ht)
  clear hl hb ht
  go_enter Tryd.func12, Tryd.ntmps12
  go_wp2_with fail
  refine H.out.mono ?_
  rintro e w' ⟨rfl, rfl⟩
  go_wp2
  go_ret
  exact ⟨rfl, rfl⟩
end Go.Proofs.YtgjofpjijnbjeaaDoor
