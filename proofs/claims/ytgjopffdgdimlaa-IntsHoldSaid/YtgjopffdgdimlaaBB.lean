/- Texts of several layers, one behind the other: BitsFns BitsNum BitsPack RefBits BitsUnpack RefUnpack PforFns PforEnc PforBest PforLow Step PforBlock. -/
import Derived.Test.YtgjopffdgdimlaaBA
import Derived.Laws.BitsAllLaws
import Derived.Laws.Small
import Derived.Deep.RegionHeld3
import Derived.Deep.RegionLaw
/- bits.isWidth, bits.packedSize, bits.Width, bits.hasUnusedBit; the document's Size and Fits. -/
namespace Go.Proofs.Ytgjopffdgdimlaa
open Go.RowKit
set_option maxRecDepth 100000

theorem isWidth_any (z : Int) (w : World) : Calls Try.prog 47 #[.int .i64 z] w fun e w' => e = .returned (.bool (decide (0 ≤ z ∧ z ≤ 64))) ∧ w = w' := by
  by_cases h1 : 0 ≤ z
  · by_cases h2 : z ≤ 64
    · rw [decide_eq_true ⟨h1, h2⟩]
      go_enter Try.func47, Try.ntmps47
      go_wp2
      go_ret
      exact ⟨rfl, rfl⟩
    · rw [decide_eq_false (fun h => h2 h.2)]
      go_enter Try.func47, Try.ntmps47
      go_wp2
      go_ret
      exact ⟨rfl, rfl⟩
  · rw [decide_eq_false (fun h => h1 h.1)]
    go_enter Try.func47, Try.ntmps47
    go_wp2
    go_ret
    exact ⟨rfl, rfl⟩

theorem packedSize_any (n v : Nat) (w : World) (hp : n * v ≤ 1000000000000000) :
    Calls Try.prog 49 #[.int .i64 (n : Int), .int .i64 (v : Int)] w fun e w' => e = .returned (.int .i64 (Bits.size n v : Int)) ∧ w = w' := by
  have hs : (Bits.size n v : Int) = ((n : Int) * (v : Int) + 7) / 8 := by unfold Bits.size; rw [Int.natCast_ediv, Int.natCast_add, Int.natCast_mul]; rfl
  have hp0 : 0 ≤ (n : Int) * (v : Int) := Int.mul_nonneg (by omega) (by omega)
  have hp1 : (n : Int) * (v : Int) ≤ 1000000000000000 := by rw [← Int.natCast_mul]; omega
  clear hp
  go_enter Try.func49, Try.ntmps49
  go_wp2
  go_ret
  exact ⟨by rw [hs]; rfl, rfl⟩
theorem refSize_any (n v : Nat) (w : World) (hp : n * v ≤ 1000000000000000) :
    Calls Try.prog 40 #[.int .i64 (n : Int), .int .i64 (v : Int)] w fun e w' => e = .returned (.int .i64 (Bits.size n v : Int)) ∧ w = w' := by
  have hs : (Bits.size n v : Int) = ((n : Int) * (v : Int) + 7) / 8 := by unfold Bits.size; rw [Int.natCast_ediv, Int.natCast_add, Int.natCast_mul]; rfl
  have hp0 : 0 ≤ (n : Int) * (v : Int) := Int.mul_nonneg (by omega) (by omega)
  have hp1 : (n : Int) * (v : Int) ≤ 1000000000000000 := by rw [← Int.natCast_mul]; omega
  clear hp
  go_enter Try.func40, Try.ntmps40
  go_wp2
  go_ret
  exact ⟨by rw [hs]; rfl, rfl⟩

theorem or_nat {a b : Nat} {x y : Int} (hx : x = (a : Int)) (hy : y = (b : Int)) (ha : a < 18446744073709551616) (hb : b < 18446744073709551616) : bits .or .u64 x y = ((a ||| b : Nat) : Int) := by
  rw [hx, hy, u64_or_nat a b ha hb]

set_option maxHeartbeats 400000 in
theorem width_any (A : Option Addr) (n cap B : Nat) (l : List UInt64) (w : World) (hl : l.length = n) (hn : n ≤ 1000000) (hb : Nums w B A l) :
    Calls Try.prog 48 #[.slice A n cap] w fun e w' => e = .returned (.int .i64 (Bits.width l : Int)) ∧ w = w' := by
  have Hl := Lib.hid hl; clear hl
  have H := Lib.hid (len64_any (Bits.orAll l) w (Bits.orAll_lt l))
  go_enter Try.func48, Try.ntmps48
  go_wp2
  go_loopw [3, 8] (fun s i wr => ∃ (k : Nat) (y : Int), k ≤ n ∧ i = .int .i64 k ∧ s = .int .u64 y ∧ y = (Bits.orAll (l.take k) : Int) ∧ w = wr) (fun _ i _ => n - (intOf i).toNat)
  case atStart => exact ⟨0, 0, by omega, rfl, rfl, rfl, rfl⟩
  case round =>
    obtain ⟨k, y, hk, rfl, rfl, hy, rfl⟩ := hrel
    have Hy := Lib.hid hy; clear hy
    by_cases hlt : k < n
    · have hk' : k < l.length := by have := Hl.out; omega
      obtain ⟨ad, rfl, hlt', hcell⟩ := hb.get hk'
      simp only [uval] at hcell
      obtain ⟨x, hx⟩ : ∃ x : Int, x = (l[k].toNat : Int) := ⟨_, rfl⟩
      have Hor := or_nat Hy.out hx (Bits.orAll_lt _) (Bits.u64_lt _)
      rw [← Bits.orAll_snoc, ← List.take_succ_eq_append_getElem hk'] at Hor
      replace Hor := Lib.hid Hor
      rw [← hx] at hcell
      clear hx
      go_wp2
      go_roundw
      case rel => exact ⟨k + 1, _, by omega, by go_num, rfl, Hor.out, trivial⟩
      case measure => simp [intOf]; omega
    · obtain rfl : k = n := by omega
      have hy := Hy.out
      rw [List.take_of_length_le (by rw [Hl.out]; exact Nat.le_refl _)] at hy
      have H' := H.out
      rw [← hy] at H'
      replace H' := Lib.hid H'
      clear H hy
      go_wp2_with fail
      refine H'.out.mono ?_
      rintro e w1 ⟨rfl, rfl⟩
      go_wp2
      go_ret
      exact ⟨rfl, rfl⟩

theorem decide_unused {l : List UInt8} {u : Nat} {b : Bool} (h : b = true ↔ ¬ Num.val l < 2 ^ u) : b = decide (2 ^ u ≤ Num.val l) := by
  rw [Bool.eq_iff_iff, h, decide_eq_true_iff]
  omega
set_option maxHeartbeats 400000 in
theorem hasUnusedBit_any (A : Option Addr) (n cap B u : Nat) (l : List UInt8) (w : World) (hl : l.length = n) (hn : n = (u + 7) / 8) (hu : u ≤ 10000000) (hb : Bytes w B A l) :
    Calls Try.prog 75 #[.slice A n cap, .int .i64 (u : Int)] w fun e w' => e = .returned (.bool (decide (2 ^ u ≤ Num.val l))) ∧ w = w' := by
  by_cases h8 : u % 8 = 0
  · have hlt := Bits.used_all (b := l) (p := u) (by omega) h8
    rw [decide_eq_false (by omega)]
    have hrem : (u : Int) % 8 = 0 := by omega
    clear hlt h8 hl hb
    go_enter Try.func75, Try.ntmps75
    go_wp2
    go_ret
    exact ⟨rfl, rfl⟩
  · obtain ⟨hp, hiff⟩ := Bits.unused (b := l) (p := u) (by omega) h8
    obtain ⟨ad, rfl, _, hcell⟩ := hb.get hp
    have hb256 := Num.byte_lt l[u / 8]
    generalize l[u / 8].toNat = b at hcell hb256 hiff
    obtain ⟨j, rfl⟩ : ∃ j, n = j + 1 := ⟨n - 1, by omega⟩
    have hi : u / 8 = j := by omega
    rw [hi] at hcell
    have hrem : (u : Int) % 8 = ((u % 8 : Nat) : Int) := by omega
    have hs0 : 0 < u % 8 := by omega
    have hj : j ≤ 10000000 := by omega
    have hs8 : u % 8 < 8 := by omega
    rw [← decide_unused (b := decide (b / 2 ^ (u % 8) ≠ 0)) (by rw [decide_eq_true_iff, ← hiff])]
    generalize u % 8 = s at *
    clear hb hp hiff h8 hi hn hl
    go_enter Try.func75, Try.ntmps75
    go_wp2
    go_ret
    refine ⟨congrArg (fun z => Ending.returned (.bool z)) ?_, rfl⟩
    have e : (b : Int) / 2 ^ s = ((b / 2 ^ s : Nat) : Int) := by rw [Int.natCast_ediv, Int.natCast_pow]; rfl
    rw [e]
    generalize b / 2 ^ s = q
    have h1 : ((s : Int) != 0) = true := by simp; omega
    rw [h1, Bool.true_and, Bool.eq_iff_iff]
    simp

set_option maxHeartbeats 400000 in
theorem refFits_any (x v : Nat) (w : World) (hx : x < 18446744073709551616) (hv : v ≤ 64) :
    Calls Try.prog 57 #[.int .u64 (x : Int), .int .i64 (v : Int)] w fun e w' => e = .returned (.bool (decide (x < 2 ^ v))) ∧ w = w' := by
  by_cases h : v = 64
  · subst h
    rw [decide_eq_true (show x < 2 ^ 64 by omega)]
    obtain ⟨z, hz⟩ : ∃ z : Int, z = (x : Int) := ⟨x, rfl⟩
    rw [← hz]
    clear hx hz
    go_enter Try.func57, Try.ntmps57
    go_wp2
    go_ret
    exact ⟨rfl, rfl⟩
  · obtain ⟨z, hz, h0, h1⟩ : ∃ z : Int, z = (x : Int) ∧ 0 ≤ z ∧ z ≤ 18446744073709551615 := ⟨x, rfl, by omega, by omega⟩
    have hd : decide (x < 2 ^ v) = (z / 2 ^ v == 0) := by
      have e : z / 2 ^ v = ((x / 2 ^ v : Nat) : Int) := by rw [hz, Int.natCast_ediv, Int.natCast_pow]; rfl
      rw [e, Bool.eq_iff_iff, decide_eq_true_iff, beq_iff_eq]
      constructor
      · intro h; rw [Nat.div_eq_of_lt h]; rfl
      · intro h
        rcases Nat.lt_or_ge x (2 ^ v) with h1 | h1
        · exact h1
        · have := Nat.div_pos h1 (Nat.two_pow_pos v); omega
    have h64 : v < 64 := by omega
    rw [← hz, hd]
    clear hx hz hd h hv
    go_enter Try.func57, Try.ntmps57
    go_wp2
    go_ret
    refine ⟨congrArg (fun z => Ending.returned (.bool z)) ?_, rfl⟩
    rw [decide_eq_false (show ¬ (64 : Int) ≤ (v : Int) by omega), Bool.false_or]
end Go.Proofs.Ytgjopffdgdimlaa

/- bits.putNumber and bits.takeNumber: one number into its bytes, and out of them. -/
namespace Go.Proofs.Ytgjopffdgdimlaa
open Go.RowKit
set_option maxRecDepth 100000

/-- the byte that is stored -/
theorem or_byte {b v s : Nat} {x : Int} (hx : x = (v : Int)) (hb : b < 256) : bits .or .u8 (b : Int) (x % 256 * 2 ^ s % 256) = ((b ||| (v % 256 * 2 ^ s) % 256 : Nat) : Int) := by
  have e : x % 256 * 2 ^ s % 256 = (((v % 256 * 2 ^ s) % 256 : Nat) : Int) := by
    rw [hx, Int.natCast_emod, Int.natCast_mul, Int.natCast_emod, Int.natCast_pow]
    rfl
  rw [e, u8_or_nat b _ hb (Nat.mod_lt _ (by omega))]

set_option maxHeartbeats 1000000 in
theorem putNumber_any (g n c base p v : Nat) (l : List UInt8) (w : World) (hown : Own w base (some ⟨g, 0, none⟩) n c l) (hv : v < 18446744073709551616) (hn : n ≤ 1000000)
    (hlt : Num.val l < 2 ^ p) (hroom : Num.val l + v * 2 ^ p < 256 ^ n) (hp : p ≤ 10000000) :
    Calls Try.prog 50 #[.slice (some ⟨g, 0, none⟩) n c, .int .i64 (p : Int), .int .u64 (v : Int)] w fun e w' =>
      ∃ l', e = .returned (.tuple #[]) ∧ Own w' base (some ⟨g, 0, none⟩) n c l' ∧ Num.val l' = Num.val l + v * 2 ^ p ∧ Below base w w' := by
  have hg := hown.block.1
  obtain ⟨x, hx, h0, h1⟩ : ∃ x : Int, x = (v : Int) ∧ 0 ≤ x ∧ x ≤ 18446744073709551615 := ⟨v, rfl, by omega, by omega⟩
  rw [← hx]
  generalize hT : Num.val l + v * 2 ^ p = T at *
  have HT := Lib.hid hT
  have Hlt := Lib.hid hlt
  have Hroom := Lib.hid hroom
  have Hx := Lib.hid hx
  clear hT hlt hroom hx hv
  go_enter Try.func50, Try.ntmps50
  go_wp2
  go_loopw [1, 2] (fun a y wr => ∃ (q u : Nat) (z : Int) (t : List UInt8), q ≤ 10000000 ∧ a = .int .i64 q ∧ y = .int .u64 z ∧ z = (u : Int) ∧ 0 ≤ z ∧ z ≤ 18446744073709551615 ∧ Own wr base (some ⟨g, 0, none⟩) n c t ∧ Num.val t < 2 ^ q ∧ Num.val t + u * 2 ^ q = T ∧ Below base w wr) (fun _ y _ => (intOf y).toNat)
  case atStart => exact ⟨p, v, x, l, hp, rfl, rfl, Hx.out, h0, h1, hown, Hlt.out, HT.out, Below.refl _ _⟩
  case round =>
    obtain ⟨q, u, z, t, hq, rfl, rfl, hz, hz0, hz1, ho, hval, hsum, hbel⟩ := hrel
    have Hz := Lib.hid hz
    have Hval := Lib.hid hval
    have Hsum := Lib.hid hsum
    clear hz hval hsum
    by_cases hzero : z = 0
    · subst hzero
      go_wp2
      go_end0
      have hz := Hz.out
      have hsum := Hsum.out
      obtain rfl : u = 0 := by omega
      exact ⟨t, rfl, ho, by omega, hbel⟩
    · have hu : 0 < u := by have := Hz.out; omega
      have hq8 : q / 8 < n := by
        have h1 := Hroom.out
        rw [← Hsum.out, Bits.pow256] at h1
        have h2 : 2 ^ q ≤ u * 2 ^ q := Nat.le_mul_of_pos_left _ hu
        have h3 : (2 : Nat) ^ q < 2 ^ (8 * n) := by omega
        have := (Nat.pow_lt_pow_iff_right (by omega)).1 h3
        omega
      have hs8 : q % 8 < 8 := by omega
      have hqe : q = 8 * (q / 8) + q % 8 := by omega
      have hquo : (q : Int) / 8 = ((q / 8 : Nat) : Int) := by omega
      have hrem : (q : Int) % 8 = ((q % 8 : Nat) : Int) := by omega
      have hj : q / 8 < t.length := by rw [ho.len]; exact hq8
      have hput := Bits.val_put (v := u) hj hs8 (by rw [← hqe]; exact Hval.out)
      have hcell := ho.cell hj
      have hfree := ho.free (q / 8)
      have hb256 := Num.byte_lt t[q / 8]
      have hor := or_byte (s := q % 8) Hz.out hb256
      have hst := ho.store (q / 8) (UInt8.ofNat (t[q / 8].toNat ||| (u % 256 * 2 ^ (q % 8)) % 256))
      have hB : t[q / 8].toNat ||| (u % 256 * 2 ^ (q % 8)) % 256 < 256 := Nat.or_lt_two_pow (n := 8) hb256 (Nat.mod_lt _ (show 0 < 256 by omega))
      rw [bval_small hB] at hst
      rw [← hqe] at hput
      have Hst := Lib.hid hst
      have Hput := Lib.hid hput
      have Hbl := Lib.hid (fun u => hbel.setCell (p := ⟨g, q / 8, none⟩) hg u)
      clear hst hput ho hbel
      generalize t.set (q / 8) (UInt8.ofNat (t[q / 8].toNat ||| (u % 256 * 2 ^ (q % 8)) % 256)) = t' at Hst Hput
      generalize t[q / 8].toNat ||| (u % 256 * 2 ^ (q % 8)) % 256 = B at hor Hst hB
      generalize t[q / 8].toNat = b at hor hcell hb256
      clear hj
      have Hqe := Lib.hid hqe
      clear hqe
      generalize q / 8 = j at *
      generalize q % 8 = s at *
      go_wp2_with fail
      go_region
      go_wp2
      go_roundw
      case rel =>
        have hqe := Hqe.out
        have hput := Hput.out
        rw [Hsum.out] at hput
        have hz' : z / 2 ^ (8 - s) = ((u / 2 ^ (8 - s) : Nat) : Int) := by rw [Hz.out, Int.natCast_ediv, Int.natCast_pow]; rfl
        have hle : u / 2 ^ (8 - s) ≤ u := Nat.div_le_self _ _
        have hzu := Hz.out
        rw [hz']
        generalize u / 2 ^ (8 - s) = d at *
        exact ⟨8 * j + 8, d, d, t', by omega, congrArg (Value.int .i64) (by omega), rfl, rfl, by omega, by omega, Hst.out, hput.2, hput.1, (Hbl.out _).drew⟩
      case measure =>
        have hz' : z / 2 ^ (8 - s) = ((u / 2 ^ (8 - s) : Nat) : Int) := by rw [Hz.out, Int.natCast_ediv, Int.natCast_pow]; rfl
        have hlt : u / 2 ^ (8 - s) < u := Nat.div_lt_self hu (Nat.one_lt_two_pow (by omega))
        have hzu := Hz.out
        rw [hz']
        generalize u / 2 ^ (8 - s) = d at *
        simp only [intOf]
        omega

/-- the number that is gathered -/
theorem or_gather {M g k : Nat} {x : Int} (hg : g < 64) (hx : x = ((M % 2 ^ g : Nat) : Int)) :
    bits .or .u64 x (IntKind.u64.wrap (((M / 2 ^ g % 2 ^ k : Nat) : Int) * 2 ^ g)) = ((M % 2 ^ (g + k) % 18446744073709551616 : Nat) : Int) := by
  have e : IntKind.u64.wrap (((M / 2 ^ g % 2 ^ k : Nat) : Int) * 2 ^ g) = (((M / 2 ^ g % 2 ^ k * 2 ^ g) % 18446744073709551616 : Nat) : Int) := by
    generalize M / 2 ^ g % 2 ^ k = m
    rw [IntKind.wrap_u64, Int.natCast_emod, Int.natCast_mul, Int.natCast_pow]
    rfl
  have hlt : M % 2 ^ g < 18446744073709551616 := Nat.lt_of_lt_of_le (Nat.mod_lt _ (Bits.pow_pos g)) (Bits.pow_le64 (by omega))
  rw [e, hx, u64_or_nat _ _ hlt (Nat.mod_lt _ (by omega)), Bits.or_more hg]
/-- the mask -/
theorem mask {Y v : Nat} {x : Int} (hv : v ≤ 64) (hx : x = (Y : Int)) (hY : Y < 18446744073709551616) : bits .and .u64 x (IntKind.u64.wrap (IntKind.u64.wrap (2 ^ v) - 1)) = ((Y % 2 ^ v : Nat) : Int) := by
  have hp := Bits.pow_pos v
  have hle := Bits.pow_le64 hv
  have e : IntKind.u64.wrap (IntKind.u64.wrap (2 ^ v) - 1) = ((2 ^ v - 1 : Nat) : Int) := by
    have h2 : (2 : Int) ^ v = ((2 ^ v : Nat) : Int) := by rw [Int.natCast_pow]; rfl
    rw [h2, IntKind.wrap_u64, IntKind.wrap_u64]
    generalize 2 ^ v = P at *
    omega
  rw [e, hx, u64_and_nat Y _ hY (by omega), Bits.and_low]

set_option maxHeartbeats 1000000 in
theorem takeNumber_any (A : Option Addr) (n cap B p v : Nat) (l : List UInt8) (w : World) (hl : l.length = n) (hv : v ≤ 64) (hpv : p + v ≤ 8 * n) (hn : n ≤ 1000000) (hb : Bytes w B A l) :
    Calls Try.prog 76 #[.slice A n cap, .int .i64 (p : Int), .int .i64 (v : Int)] w fun e w' =>
      e = .returned (.int .u64 ((Num.val l / 2 ^ p % 2 ^ v : Nat) : Int)) ∧ w = w' := by
  have Hl := Lib.hid hl; clear hl
  go_enter Try.func76, Try.ntmps76
  go_wp2
  go_loopw [1, 7, 8] (fun a y i wr => ∃ (k : Nat) (z : Int), k ≤ 72 ∧ a = .int .i64 ((p + k : Nat) : Int) ∧ i = .int .i64 k ∧ y = .int .u64 z ∧ z = ((Num.val l / 2 ^ p % 2 ^ k % 18446744073709551616 : Nat) : Int) ∧ w = wr) (fun _ _ i _ => 100 - (intOf i).toNat)
  case atStart => exact ⟨0, 0, by omega, rfl, rfl, rfl, by simp [Nat.mod_one], rfl⟩
  case round =>
    obtain ⟨k, z, hk, rfl, rfl, rfl, hz, rfl⟩ := hrel
    have Hz := Lib.hid hz
    clear hz
    by_cases hlt : k < v
    · have hq8 : (p + k) / 8 < l.length := by rw [Hl.out]; omega
      obtain ⟨ad, rfl, _, hcell⟩ := hb.get hq8
      have hb256 := Num.byte_lt l[(p + k) / 8]
      have hbits := Bits.val_bits (b := l) (p := p + k) hq8
      generalize l[(p + k) / 8].toNat = b at hcell hb256 hbits
      rw [Nat.pow_add, ← Nat.div_div_eq_div_mul] at hbits
      have hz := Hz.out
      rw [Nat.mod_eq_of_lt (a := Num.val l / 2 ^ p % 2 ^ k) (Nat.lt_of_lt_of_le (Nat.mod_lt _ (Bits.pow_pos k)) (Bits.pow_le64 (by omega)))] at hz
      have hor := or_gather (k := 8 - (p + k) % 8) (by omega) hz
      rw [← hbits] at hor
      have hquo : ((p : Int) + (k : Int)) / 8 = (((p + k) / 8 : Nat) : Int) := by omega
      have hrem : ((p : Int) + (k : Int)) % 8 = (((p + k) % 8 : Nat) : Int) := by omega
      have hs8 : (p + k) % 8 < 8 := by omega
      have hj : (p + k) / 8 < n := by omega
      have Hor := Lib.hid hor
      clear hz hbits hor hq8
      generalize (p + k) / 8 = j at *
      generalize (p + k) % 8 = s at *
      go_wp2
      go_roundw
      case rel =>
        have e : IntKind.u64.wrap ((b : Int) / 2 ^ s) = ((b / 2 ^ s : Nat) : Int) := by
          have e1 : (b : Int) / 2 ^ s = ((b / 2 ^ s : Nat) : Int) := by rw [Int.natCast_ediv, Int.natCast_pow]; rfl
          have hle : b / 2 ^ s ≤ b := Nat.div_le_self _ _
          rw [e1]
          generalize b / 2 ^ s = d at *
          exact IntWalk.u64_in _ (by omega)
        rw [e]
        exact ⟨k + (8 - s), _, by omega, congrArg (Value.int .i64) (by omega), congrArg (Value.int .i64) (by omega), rfl, Hor.out, trivial⟩
      case measure =>
        simp only [intOf]
        omega
    · have hmask := mask hv Hz.out (Nat.mod_lt _ (by omega))
      rw [Bits.out_all hv (by omega)] at hmask
      have Hmask := Lib.hid hmask
      clear hmask
      go_wp2
      go_ret
      exact ⟨congrArg (fun z => Ending.returned (.int .u64 z)) Hmask.out, rfl⟩
end Go.Proofs.Ytgjopffdgdimlaa

/- bits.Pack. -/
namespace Go.Proofs.Ytgjopffdgdimlaa
open Go.RowKit
set_option maxRecDepth 100000

/-- what Pack leaves: bytes of its own, and the error -/
def PackPost (w : World) (r : List UInt8 × Nat) (e : Ending) (w' : World) : Prop :=
  ∃ A c, e = .returned (.tuple #[.slice A r.1.length c, .int .i64 (r.2 : Int)]) ∧ Own w' w.heap.size A r.1.length c r.1 ∧ Below w.heap.size w w'

theorem Bits.cat_take_succ {v : Nat} {l : List UInt64} {k : Nat} (hk : k < l.length) : Bits.cat v (l.take (k + 1)) = Bits.cat v (l.take k) + l[k].toNat * 2 ^ (k * v) := by
  rw [List.take_succ_eq_append_getElem hk, Bits.cat_snoc, List.length_take, Nat.min_eq_left (by omega), Nat.mul_comm (2 ^ _)]
theorem Bits.cat_take_lt {v : Nat} {l : List UInt64} {k : Nat} (h : Bits.Fit v l) (hk : k ≤ l.length) : Bits.cat v (l.take k) < 2 ^ (k * v) := by
  have := Bits.cat_lt (h.take k)
  rwa [List.length_take, Nat.min_eq_left hk] at this
theorem Bits.size_le {n v : Nat} (hn : n ≤ 65536) (hv : v ≤ 64) : Bits.size n v ≤ 524288 ∧ n * v ≤ 4194304 := by
  have : n * v ≤ 65536 * 64 := Nat.mul_le_mul hn hv
  unfold Bits.size
  omega

set_option maxHeartbeats 1000000 in
theorem pack_any (A : Option Addr) (n cap B : Nat) (z : Int) (l : List UInt64) (w : World) (hl : l.length = n) (hn : n ≤ 65536) (hb : Nums w B A l) (hB : B ≤ w.heap.size) :
    Calls Try.prog 27 #[.slice A n cap, .int .i64 z] w (PackPost w (Bits.pack l z)) := by
  have H1 := isWidth_any z w
  by_cases hw : z < 0 ∨ 64 < z
  · rw [decide_eq_false (by omega)] at H1
    have e : Bits.pack l z = ([], 1) := by unfold Bits.pack; rw [if_pos hw]
    rw [e]
    replace H1 := Lib.hid H1
    clear hb hl hw e
    go_enter Try.func27, Try.ntmps27
    go_wp2_with fail
    refine H1.out.mono ?_
    rintro e w1 ⟨rfl, rfl⟩
    go_wp2
    go_ret2
    exact ⟨none, 0, rfl, own_none _ _, Below.refl _ _⟩
  · rw [decide_eq_true (by omega)] at H1
    obtain ⟨v, rfl⟩ : ∃ v : Nat, z = v := ⟨z.toNat, by omega⟩
    have hv : v ≤ 64 := by omega
    have H2 := width_any A n cap B l w hl (by omega) hb
    have h64 := Bits.width_le64 l
    replace H1 := Lib.hid H1
    by_cases hf : Bits.width l ≤ v
    · have hfit := (Bits.width_le_iff l hv).1 hf
      have e := Bits.pack_ok hv hfit
      rw [e]
      clear e
      generalize Bits.width l = W at *
      replace H2 := Lib.hid H2
      obtain ⟨hS, hnv⟩ := Bits.size_le hn hv
      have H3 := Lib.hid (packedSize_any n v w (by omega))
      have hmk := run_make_zeros (Bits.size n v) (by omega)
      have ho1 := own_zeros w (Bits.size n v) (by simp only [maxLen]; omega)
      have hbel : Below w.heap.size w (w.alloc (.cells (madeCells #[.int .u8 0] (Bits.size n v)) 5)) := (Below.refl _ _).alloc (Nat.le_refl _) _
      have hroom : ∀ k (hk : k < l.length), Bits.cat v (l.take k) + l[k].toNat * 2 ^ (k * v) < 256 ^ Bits.size n v := fun k hk => by
        rw [← Bits.cat_take_succ hk, ← hl]
        refine Nat.lt_of_lt_of_le (Bits.cat_take_lt hfit hk) (Nat.le_trans (Nat.pow_le_pow_right (by omega) (Nat.mul_le_mul_right v hk)) (Bits.pow_size _ _))
      have Hpost : PackPost w (Bits.packed v l, 0) = PackPost w (Num.le (Bits.size n v) (Bits.cat v l), 0) := by rw [Bits.packed, hl]
      rw [Hpost]
      clear Hpost
      generalize Bits.size n v = S at *
      have Hroom := Lib.hid hroom
      have Hl := Lib.hid hl
      have Hfit := Lib.hid hfit
      clear hroom hl hfit hw
      go_enter Try.func27, Try.ntmps27
      go_wp2_with fail
      refine H1.out.mono ?_
      rintro e w1 ⟨rfl, rfl⟩
      go_wp2_with fail
      refine H2.out.mono ?_
      rintro e w1 ⟨rfl, rfl⟩
      go_wp2_with fail
      refine H3.out.mono ?_
      rintro e w1 ⟨rfl, rfl⟩
      clear H1 H2 H3
      go_wp2
      go_loopw [23] (fun i wr => ∃ (k : Nat) (t : List UInt8), k ≤ n ∧ i = .int .i64 k ∧ Own wr w.heap.size (some ⟨w.heap.size, 0, none⟩) S S t ∧ Num.val t = Bits.cat v (l.take k) ∧ Below w.heap.size w wr) (fun i _ => n - (intOf i).toNat)
      case atStart => exact ⟨0, _, by omega, rfl, ho1, by rw [Bits.val_zeros]; rfl, hbel⟩
      case round =>
        clear ho1 hbel
        obtain ⟨k, t, hk, rfl, ho, hval, hbel⟩ := hrel
        have Hval := Lib.hid hval; clear hval
        by_cases hlt : k < n
        · have hk' : k < l.length := by have := Hl.out; omega
          obtain ⟨ad, rfl, hadB, hcell⟩ := (hb.wide hB).below hbel |>.get hk'
          have hkv : k * v ≤ 4194304 := Nat.le_trans (Nat.mul_le_mul_right v hk) hnv
          have hr := Hroom.out k hk'
          rw [← Hval.out] at hr
          have hlt2 : Num.val t < 2 ^ (k * v) := by rw [Hval.out]; exact Bits.cat_take_lt Hfit.out (by omega)
          have HP := putNumber_any w.heap.size S S w.heap.size (k * v) l[k].toNat t wr ho (Bits.u64_lt _) (by omega) hlt2 hr (by omega)
          rw [Hval.out, ← Bits.cat_take_succ hk'] at HP
          simp only [uval] at hcell
          generalize l[k].toNat = x at *
          rw [Int.natCast_mul] at HP
          replace HP := Lib.hid HP
          have hkv0 : 0 ≤ (k : Int) * (v : Int) := Int.mul_nonneg (by omega) (by omega)
          have hkv1 : (k : Int) * (v : Int) ≤ 4194304 := by rw [← Int.natCast_mul]; omega
          clear hr hlt2 hkv
          go_wp2_with fail
          refine HP.out.mono ?_
          rintro e w1 ⟨t', rfl, ho', hval', hbel'⟩
          clear HP
          go_wp2
          go_roundw
          case rel => exact ⟨k + 1, t', by omega, by go_num, ho', hval', hbel.trans hbel'⟩
          case measure => simp [intOf]; omega
        · obtain rfl : k = n := by omega
          go_wp2
          go_ret2
          have hval := Hval.out
          rw [List.take_of_length_le (by rw [Hl.out]; exact Nat.le_refl _)] at hval
          have ht : t = Num.le S (Bits.cat v l) := by rw [← hval, ← ho.len, Num.le_val]
          subst ht
          refine ⟨some ⟨w.heap.size, 0, none⟩, S, ?_, ?_, hbel⟩
          · rw [Num.le_length]; rfl
          · rw [Num.le_length]; exact ho
    · have e := Bits.pack_range hv (fun h => hf ((Bits.width_le_iff l hv).2 h))
      rw [e]
      clear e
      generalize Bits.width l = W at *
      replace H2 := Lib.hid H2
      clear hb hl hw
      go_enter Try.func27, Try.ntmps27
      go_wp2_with fail
      refine H1.out.mono ?_
      rintro e w1 ⟨rfl, rfl⟩
      go_wp2_with fail
      refine H2.out.mono ?_
      rintro e w1 ⟨rfl, rfl⟩
      go_wp2
      go_ret2
      exact ⟨none, 0, rfl, own_none _ _, Below.refl _ _⟩
end Go.Proofs.Ytgjopffdgdimlaa

/- dragnetref03.Pack: the document's. -/
namespace Go.Proofs.Ytgjopffdgdimlaa
open Go.RowKit
set_option maxRecDepth 100000

/-- one bit more -/
theorem Bits.mod_succ (x j : Nat) : x % 2 ^ (j + 1) = x % 2 ^ j + 2 ^ j * (x / 2 ^ j % 2) := by rw [Nat.pow_succ, Nat.mod_mul]
theorem bit_int {x j : Nat} {z : Int} (hz : z = (x : Int)) : (z / 2 ^ j).tmod 2 = ((x / 2 ^ j % 2 : Nat) : Int) := by
  have e : z / 2 ^ j = ((x / 2 ^ j : Nat) : Int) := by rw [hz, Int.natCast_ediv, Int.natCast_pow]; rfl
  rw [e]
  generalize x / 2 ^ j = d
  rw [Int.tmod_eq_emod_of_nonneg (by omega)]
  omega

set_option maxHeartbeats 2000000 in
theorem refPack_any (A : Option Addr) (n cap B : Nat) (z : Int) (l : List UInt64) (w : World) (hl : l.length = n) (hn : n ≤ 65536) (hb : Nums w B A l) (hB : B ≤ w.heap.size) :
    Calls Try.prog 32 #[.slice A n cap, .int .i64 z] w (PackPost w (Bits.pack l z)) := by
  by_cases hw : z < 0 ∨ 64 < z
  · have e : Bits.pack l z = ([], 1) := by unfold Bits.pack; rw [if_pos hw]
    rw [e]
    clear hb hl e
    rcases hw with hw | hw
    all_goals go_enter Try.func32, Try.ntmps32
    all_goals go_wp2
    all_goals go_ret2
    all_goals exact ⟨none, 0, rfl, own_none _ _, Below.refl _ _⟩
  · obtain ⟨v, rfl⟩ : ∃ v : Nat, z = v := ⟨z.toNat, by omega⟩
    have hv : v ≤ 64 := by omega
    obtain ⟨hS, hnv⟩ := Bits.size_le hn hv
    have H3 := Lib.hid (refSize_any n v w (by omega))
    have hmk := run_make_zeros (Bits.size n v) (by omega)
    have ho1 := own_zeros w (Bits.size n v) (by simp only [maxLen]; omega)
    have hbel : Below w.heap.size w (w.alloc (.cells (madeCells #[.int .u8 0] (Bits.size n v)) 5)) := (Below.refl _ _).alloc (Nat.le_refl _) _
    have hnS : n * v ≤ 8 * Bits.size n v := by unfold Bits.size; omega
    have hSz : Bits.size n v = Bits.size l.length v := by rw [hl]
    have HSz := Lib.hid hSz
    clear hSz
    generalize Bits.size n v = S at *
    have Hl := Lib.hid hl
    clear hl hw
    go_enter Try.func32, Try.ntmps32
    go_wp2_with fail
    refine H3.out.mono ?_
    rintro e w1 ⟨rfl, rfl⟩
    clear H3
    go_wp2
    go_loopw [7] (fun i wr => ∃ (k : Nat) (t : List UInt8), k ≤ n ∧ i = .int .i64 k ∧ Own wr w.heap.size (some ⟨w.heap.size, 0, none⟩) S S t ∧ Num.val t = Bits.cat v (l.take k) ∧ Bits.Fit v (l.take k) ∧ Below w.heap.size w wr) (fun i _ => n - (intOf i).toNat)
    case atStart => exact ⟨0, _, by omega, rfl, ho1, by rw [Bits.val_zeros]; rfl, Bits.Fit.nil v, hbel⟩
    case round =>
      clear ho1 hbel
      obtain ⟨k, t, hk, rfl, ho, hval, hfit, hbel⟩ := hrel
      have Hval := Lib.hid hval
      have Hfit := Lib.hid hfit
      clear hval hfit
      by_cases hlt : k < n
      · have hk' : k < l.length := by have := Hl.out; omega
        have hbr := (hb.wide hB).below hbel
        obtain ⟨ad, rfl, hadB, hcell⟩ := hbr.get hk'
        simp only [uval] at hcell
        have H4 := refFits_any l[k].toNat v wr (Bits.u64_lt _) hv
        have hx64 := Bits.u64_lt l[k]
        by_cases hx : l[k].toNat < 2 ^ v
        · rw [decide_eq_true hx] at H4
          have hsnoc := Bits.cat_take_succ (v := v) hk'
          have hfs : Bits.Fit v (l.take (k + 1)) := by rw [List.take_succ_eq_append_getElem hk']; exact Hfit.out.snoc hx
          have hcl := Bits.cat_take_lt (v := v) (k := k) (l := l.take k) Hfit.out (by rw [List.length_take]; omega)
          rw [List.take_take, Nat.min_self] at hcl
          replace H4 := Lib.hid H4
          have Hsnoc := Lib.hid hsnoc
          have Hfs := Lib.hid hfs
          have Hcl := Lib.hid hcl
          have Hx := Lib.hid hx
          have hP : (k : Int) * (v : Int) = ((k * v : Nat) : Int) := by rw [Int.natCast_mul]
          have hPn : k * v + v ≤ n * v := by rw [← Nat.succ_mul]; exact Nat.mul_le_mul_right v hlt
          generalize hxe : l[k].toNat = x at *
          obtain ⟨y, hy, hy0, hy1⟩ : ∃ y : Int, y = (x : Int) ∧ 0 ≤ y ∧ y ≤ 18446744073709551615 := ⟨x, rfl, by omega, by omega⟩
          rw [← hy] at H4 hcell
          have Hy := Lib.hid hy
          have hadc : ∀ wq, Below w.heap.size w wq → wq.cell? (ad.add k) = some (.int .u64 y) := fun wq hq => by
            obtain ⟨ad', h1, _, h2⟩ := ((hb.wide hB).below hq).get hk'
            cases h1
            rw [h2, uval, hxe, hy]
          have Hadc := Lib.hid hadc
          clear hsnoc hfs hcl hx hx64 hxe hbr hb hadc hy
          generalize k * v = P at *
          go_wp2_with fail
          refine H4.out.mono ?_
          rintro e w1 ⟨rfl, rfl⟩
          clear H4 hcell
          go_wp2
          go_loopw [8] (fun i wq => ∃ (j : Nat) (t : List UInt8), j ≤ v ∧ i = .int .i64 j ∧ Own wq w.heap.size (some ⟨w.heap.size, 0, none⟩) S S t ∧ Num.val t = Bits.cat v (l.take k) + 2 ^ P * (x % 2 ^ j) ∧ Below w.heap.size w wq) (fun i _ => v - (intOf i).toNat)
          case atStart => exact ⟨0, t, by omega, rfl, ho, by rw [Hval.out]; simp [Nat.mod_one], hbel⟩
          case round =>
            clear ho hbel Hval
            clear t
            obtain ⟨j, t, hj, rfl, ho, hval, hbel⟩ := hrel
            have Hval := Lib.hid hval
            clear hval
            by_cases hjv : j < v
            · have hbit := bit_int (j := j) Hy.out
              have hcell1 := Hadc.out _ hbel
              by_cases h1 : x / 2 ^ j % 2 = 1
              · rw [h1, Int.natCast_one] at hbit
                have hvt : Num.val t < 2 ^ (P + j) := by
                  have h2 : x % 2 ^ j + 1 ≤ 2 ^ j := Nat.mod_lt _ (Bits.pow_pos j)
                  have h3 := Nat.mul_le_mul_left (2 ^ P) h2
                  have h4 := Hcl.out
                  rw [Nat.mul_add, ← Nat.pow_add] at h3
                  rw [Hval.out]
                  omega
                have hJS : (P + j) / 8 < S := by omega
                have hs8 : (P + j) % 8 < 8 := by omega
                have hpe : P + j = 8 * ((P + j) / 8) + (P + j) % 8 := by omega
                have hquo : ((P : Int) + (j : Int)) / 8 = (((P + j) / 8 : Nat) : Int) := by omega
                have hrem : ((P : Int) + (j : Int)) % 8 = (((P + j) % 8 : Nat) : Int) := by omega
                have hJ : (P + j) / 8 < t.length := by rw [ho.len]; exact hJS
                have hsmall : t[(P + j) / 8].toNat < 2 ^ ((P + j) % 8) := Bits.val_small hJ (by rw [← hpe]; exact hvt)
                have hQ : 2 ^ ((P + j) % 8) ≤ 2 ^ 7 := Nat.pow_le_pow_right (by omega) (by omega)
                have hset := Bits.val_set hJ (m := (P + j) % 8) (by omega)
                rw [← hpe, Hval.out] at hset
                have hnext : Bits.cat v (l.take k) + 2 ^ P * (x % 2 ^ j) + 2 ^ (P + j) = Bits.cat v (l.take k) + 2 ^ P * (x % 2 ^ (j + 1)) := by
                  rw [Bits.mod_succ, h1, Nat.mul_one, Nat.mul_add, ← Nat.pow_add, Nat.add_assoc]
                rw [hnext] at hset
                have hcell := ho.cell hJ
                have hfree := ho.free ((P + j) / 8)
                have hst := ho.store ((P + j) / 8) (UInt8.ofNat (t[(P + j) / 8].toNat + 2 ^ ((P + j) % 8)))
                rw [bval_small (by omega), Int.natCast_add] at hst
                have hpow : (2 : Int) ^ ((P + j) % 8) = ((2 ^ ((P + j) % 8) : Nat) : Int) := by rw [Int.natCast_pow]; rfl
                have Hst := Lib.hid hst
                have Hset := Lib.hid hset
                have Hbl := Lib.hid (fun u => hbel.setCell (p := ⟨w.heap.size, (P + j) / 8, none⟩) (Nat.le_refl _) u)
                clear hst hset ho hbel hnext hpe hvt h1
                generalize t.set ((P + j) / 8) (UInt8.ofNat (t[(P + j) / 8].toNat + 2 ^ ((P + j) % 8))) = t' at Hst Hset
                generalize t[(P + j) / 8].toNat = b at *
                clear hJ
                generalize (P + j) / 8 = J at *
                generalize (P + j) % 8 = s at *
                generalize 2 ^ s = Q at hpow Hst hsmall hQ
                have hQ2 : Q ≤ 128 := hQ
                clear hQ
                go_wp2_with fail
                go_region
                go_wp2
                go_roundw
                case rel => exact ⟨j + 1, t', by omega, by go_num, Hst.out, Hset.out, (Hbl.out _).drew⟩
                case measure => simp [intOf]; omega
              · have h0 : x / 2 ^ j % 2 = 0 := by omega
                rw [h0, Int.natCast_zero] at hbit
                have hnext : Num.val t = Bits.cat v (l.take k) + 2 ^ P * (x % 2 ^ (j + 1)) := by rw [Bits.mod_succ, h0, Nat.mul_zero, Nat.add_zero]; exact Hval.out
                have Hnext := Lib.hid hnext
                clear hnext h0 h1
                go_wp2
                go_roundw
                case rel => exact ⟨j + 1, t, by omega, by go_num, ho, Hnext.out, hbel⟩
                case measure => simp [intOf]; omega
            · obtain rfl : j = v := by omega
              go_wp2
              go_roundw
              case rel =>
                refine ⟨k + 1, t, by omega, by go_num, ho, ?_, Hfs.out, hbel⟩
                rw [Hval.out, Nat.mod_eq_of_lt Hx.out, Hsnoc.out, Nat.mul_comm]
              case measure => simp [intOf]; omega
        · rw [decide_eq_false hx] at H4
          have hnf : ¬ Bits.Fit v l := fun h => hx (h.get hk')
          rw [Bits.pack_range hv hnf]
          replace H4 := Lib.hid H4
          generalize l[k].toNat = x at *
          obtain ⟨y, hy⟩ : ∃ y : Int, y = (x : Int) := ⟨x, rfl⟩
          rw [← hy] at H4 hcell
          clear hx hx64 hnf hbr hb hy
          go_wp2_with fail
          refine H4.out.mono ?_
          rintro e w1 ⟨rfl, rfl⟩
          clear H4
          go_wp2
          go_ret2
          exact ⟨none, 0, rfl, own_none _ _, hbel⟩
      · obtain rfl : k = n := by omega
        have hfit := Hfit.out
        have hval := Hval.out
        rw [List.take_of_length_le (by rw [Hl.out]; exact Nat.le_refl _)] at hval hfit
        have hpk := Bits.pack_ok hv hfit
        have ht : t = Bits.packed v l := by rw [Bits.packed, ← hval, ← HSz.out, ← ho.len, Num.le_val]
        subst ht
        have hpl := Bits.packed_length v l
        rw [← HSz.out] at hpl
        generalize Bits.packed v l = PK at *
        have Hpk := Lib.hid hpk
        clear hval hfit Hval Hfit hpk
        go_wp2
        go_ret2
        rw [Hpk.out]
        refine ⟨some ⟨w.heap.size, 0, none⟩, S, ?_, ?_, hbel⟩
        · rw [hpl]; rfl
        · rw [hpl]; exact ho
end Go.Proofs.Ytgjopffdgdimlaa

/- bits.Unpack. -/
namespace Go.Proofs.Ytgjopffdgdimlaa
open Go.RowKit
set_option maxRecDepth 100000

/-- what Unpack leaves: numbers of its own, and the error -/
def UnpackPost (w : World) (r : List UInt64 × Nat) (e : Ending) (w' : World) : Prop :=
  ∃ A c, e = .returned (.tuple #[.slice A r.1.length c, .int .i64 (r.2 : Int)]) ∧ NOwn w' w.heap.size A r.1.length c r.1 ∧ Below w.heap.size w w'

theorem nown_none (w : World) (base : Nat) : NOwn w base none 0 0 [] := ROwn.nil _ _ w base
theorem Bits.parts_zeros_set (n k w N : Nat) (hk : k < n) : (Bits.parts k w N ++ List.replicate (n - k) 0).set k (UInt64.ofNat (N / 2 ^ (k * w) % 2 ^ w)) = Bits.parts (k + 1) w N ++ List.replicate (n - (k + 1)) 0 := by
  obtain ⟨d, rfl⟩ : ∃ d, n = k + 1 + d := ⟨n - k - 1, by omega⟩
  rw [show k + 1 + d - k = d + 1 from by omega, List.replicate_succ, show k + 1 + d - (k + 1) = d from by omega, Bits.parts_succ]
  have e : (Bits.parts k w N).length = k := Bits.parts_length _ _ _
  generalize Bits.parts k w N = P at *
  subst e
  simp
theorem uval_small {x : Nat} (h : x < 18446744073709551616) : uval (UInt64.ofNat x) = .int .u64 (x : Int) := by
  unfold uval
  rw [Bits.toNat_ofNat h]

set_option maxHeartbeats 1000000 in
theorem unpack_any (A : Option Addr) (m cap B : Nat) (y z : Int) (b : List UInt8) (w : World) (hl : b.length = m) (hb : Bytes w B A b) (hB : B ≤ w.heap.size) (hm : m ≤ 140737488355328) :
    Calls Try.prog 62 #[.slice A m cap, .int .i64 y, .int .i64 z] w (UnpackPost w (Bits.unpack b y z)) := by
  have H1 := isWidth_any z w
  by_cases hw : z < 0 ∨ 64 < z ∨ y < 0 ∨ 4096 < y
  · have e : Bits.unpack b y z = ([], 1) := by unfold Bits.unpack; rw [if_pos hw]
    rw [e]
    clear e hl hb
    by_cases hz : 0 ≤ z ∧ z ≤ 64
    · rw [decide_eq_true hz] at H1
      replace H1 := Lib.hid H1
      by_cases hy : y < 0
      · go_enter Try.func62, Try.ntmps62
        go_wp2_with fail
        refine H1.out.mono ?_
        rintro e w1 ⟨rfl, rfl⟩
        go_wp2
        go_ret2
        exact ⟨none, 0, rfl, nown_none _ _, Below.refl _ _⟩
      · have hy2 : 4096 < y := by omega
        go_enter Try.func62, Try.ntmps62
        go_wp2_with fail
        refine H1.out.mono ?_
        rintro e w1 ⟨rfl, rfl⟩
        go_wp2
        go_ret2
        exact ⟨none, 0, rfl, nown_none _ _, Below.refl _ _⟩
    · rw [decide_eq_false hz] at H1
      replace H1 := Lib.hid H1
      clear hw hz
      go_enter Try.func62, Try.ntmps62
      go_wp2_with fail
      refine H1.out.mono ?_
      rintro e w1 ⟨rfl, rfl⟩
      go_wp2
      go_ret2
      exact ⟨none, 0, rfl, nown_none _ _, Below.refl _ _⟩
  · rw [decide_eq_true (by omega)] at H1
    replace H1 := Lib.hid H1
    obtain ⟨v, rfl⟩ : ∃ v : Nat, z = v := ⟨z.toNat, by omega⟩
    obtain ⟨n, rfl⟩ : ∃ n : Nat, y = n := ⟨y.toNat, by omega⟩
    have hv : v ≤ 64 := by omega
    have hn : n ≤ 4096 := by omega
    obtain ⟨hS, hnv⟩ := Bits.size_le (show n ≤ 65536 by omega) hv
    have H2 := packedSize_any n v w (by omega)
    have hp0 : 0 ≤ (n : Int) * (v : Int) := Int.mul_nonneg (by omega) (by omega)
    have hp1 : (n : Int) * (v : Int) ≤ 4194304 := by rw [← Int.natCast_mul]; omega
    by_cases h2 : b.length < Bits.size n v
    · have e : Bits.unpack b n v = ([], 3) := by unfold Bits.unpack; rw [if_neg hw, Int.toNat_natCast, Int.toNat_natCast, if_pos h2]
      rw [e]
      rw [hl] at h2
      clear e hl hb hw hp0 hp1
      generalize Bits.size n v = S at *
      replace H2 := Lib.hid H2
      go_enter Try.func62, Try.ntmps62
      go_wp2_with fail
      refine H1.out.mono ?_
      rintro e w1 ⟨rfl, rfl⟩
      go_wp2_with fail
      refine H2.out.mono ?_
      rintro e w1 ⟨rfl, rfl⟩
      go_wp2
      go_ret2
      exact ⟨none, 0, rfl, nown_none _ _, Below.refl _ _⟩
    · by_cases h3 : Bits.size n v < b.length
      · have e : Bits.unpack b n v = ([], 2) := by unfold Bits.unpack; rw [if_neg hw, Int.toNat_natCast, Int.toNat_natCast, if_neg h2, if_pos (.inl h3)]
        rw [e]
        rw [hl] at h2 h3
        clear e hl hb hw hp0 hp1
        generalize Bits.size n v = S at *
        replace H2 := Lib.hid H2
        go_enter Try.func62, Try.ntmps62
        go_wp2_with fail
        refine H1.out.mono ?_
        rintro e w1 ⟨rfl, rfl⟩
        go_wp2_with fail
        refine H2.out.mono ?_
        rintro e w1 ⟨rfl, rfl⟩
        go_wp2
        go_ret2
        exact ⟨none, 0, rfl, nown_none _ _, Below.refl _ _⟩
      · obtain rfl : m = Bits.size n v := by omega
        have H3 := hasUnusedBit_any A (Bits.size n v) cap B (n * v) b w hl rfl (by omega) hb
        have hd : 8 * Bits.size n v < n * v + 8 ∧ n * v ≤ 8 * Bits.size n v := by unfold Bits.size; omega
        rw [Int.natCast_mul] at H3
        by_cases h4 : 2 ^ (n * v) ≤ Num.val b
        · have e : Bits.unpack b n v = ([], 2) := by unfold Bits.unpack; rw [if_neg hw, Int.toNat_natCast, Int.toNat_natCast, if_neg h2, if_pos (.inr h4)]
          rw [e]
          rw [decide_eq_true h4] at H3
          replace H2 := Lib.hid H2
          replace H3 := Lib.hid H3
          clear e hl hb hw h2 h3 h4 hd
          generalize Bits.size n v = S at *
          go_enter Try.func62, Try.ntmps62
          go_wp2_with fail
          refine H1.out.mono ?_
          rintro e w1 ⟨rfl, rfl⟩
          go_wp2_with fail
          refine H2.out.mono ?_
          rintro e w1 ⟨rfl, rfl⟩
          go_wp2_with fail
          refine H3.out.mono ?_
          rintro e w1 ⟨rfl, rfl⟩
          go_wp2
          go_ret2
          exact ⟨none, 0, rfl, nown_none _ _, Below.refl _ _⟩
        · have e : Bits.unpack b n v = (Bits.parts n v (Num.val b), 0) := by unfold Bits.unpack; rw [if_neg hw, Int.toNat_natCast, Int.toNat_natCast, if_neg h2, if_neg (by omega)]
          rw [e]
          rw [decide_eq_false h4] at H3
          replace H2 := Lib.hid H2
          replace H3 := Lib.hid H3
          have Hl := Lib.hid hl
          clear e hl hw h2 h3 h4
          generalize Bits.size n v = S at *
          have hmk := run_make_nums n (by omega)
          have ho1 := own_nums w n (by simp only [maxLen]; omega)
          have hbel : Below w.heap.size w (w.alloc (.cells (madeCells #[.int .u64 0] n) 54)) := (Below.refl _ _).alloc (Nat.le_refl _) _
          go_enter Try.func62, Try.ntmps62
          go_wp2_with fail
          refine H1.out.mono ?_
          rintro e w1 ⟨rfl, rfl⟩
          go_wp2_with fail
          refine H2.out.mono ?_
          rintro e w1 ⟨rfl, rfl⟩
          go_wp2_with fail
          refine H3.out.mono ?_
          rintro e w1 ⟨rfl, rfl⟩
          clear H1 H2 H3
          go_wp2
          go_loopw [44] (fun i wr => ∃ (k : Nat), k ≤ n ∧ i = .int .i64 k ∧ NOwn wr w.heap.size (some ⟨w.heap.size, 0, none⟩) n n (Bits.parts k v (Num.val b) ++ List.replicate (n - k) 0) ∧ Below w.heap.size w wr) (fun i _ => n - (intOf i).toNat)
          case atStart => exact ⟨0, by omega, rfl, by simpa [Bits.parts] using ho1, hbel⟩
          case round =>
            clear ho1 hbel
            obtain ⟨k, hk, rfl, ho, hbel⟩ := hrel
            by_cases hlt : k < n
            · have hb1 := (hb.wide hB).below hbel
              have hkv : k * v + v ≤ n * v := by rw [← Nat.succ_mul]; exact Nat.mul_le_mul_right v hlt
              have HT := takeNumber_any A S cap w.heap.size (k * v) v b wr Hl.out hv (by omega) (by omega) hb1
              rw [Int.natCast_mul] at HT
              have hxlt : Num.val b / 2 ^ (k * v) % 2 ^ v < 18446744073709551616 := Nat.lt_of_lt_of_le (Nat.mod_lt _ (Bits.pow_pos v)) (Bits.pow_le64 hv)
              have hst := ho.store k (UInt64.ofNat (Num.val b / 2 ^ (k * v) % 2 ^ v))
              rw [uval_small hxlt, Bits.parts_zeros_set n k v _ hlt] at hst
              have hfree := ho.free k
              have hcell := ho.cell (k := k) (by rw [ho.len]; exact hlt)
              generalize (Bits.parts k v (Num.val b) ++ List.replicate (n - k) 0)[k]'(by rw [ho.len]; exact hlt) = old at hcell
              simp only [uval] at hcell
              have Hst := Lib.hid hst
              have Hbl := Lib.hid (hbel.setCell (p := ⟨w.heap.size, k, none⟩) (Nat.le_refl _) (.int .u64 ((Num.val b / 2 ^ (k * v) % 2 ^ v : Nat) : Int)))
              replace HT := Lib.hid HT
              have hkv0 : 0 ≤ (k : Int) * (v : Int) := Int.mul_nonneg (by omega) (by omega)
              have hkv1 : (k : Int) * (v : Int) ≤ 4194304 := by rw [← Int.natCast_mul]; omega
              generalize Num.val b / 2 ^ (k * v) % 2 ^ v = x at *
              clear ho hst hbel hkv hxlt hd
              go_wp2_with fail
              refine HT.out.mono ?_
              rintro e w1 ⟨rfl, rfl⟩
              clear HT
              go_wp2
              go_roundw
              case rel => exact ⟨k + 1, by omega, by go_num, Hst.out, Hbl.out⟩
              case measure => simp [intOf]; omega
            · obtain rfl : k = n := by omega
              go_wp2
              go_ret2
              rw [Nat.sub_self, List.replicate_zero, List.append_nil] at ho
              refine ⟨some ⟨w.heap.size, 0, none⟩, k, ?_, ?_, hbel⟩
              · rw [Bits.parts_length]; rfl
              · rw [Bits.parts_length]; exact ho
end Go.Proofs.Ytgjopffdgdimlaa

/- dragnetref03.Unpack: the document's. -/
namespace Go.Proofs.Ytgjopffdgdimlaa
open Go.RowKit
set_option maxRecDepth 100000

theorem nown_one (w : World) (x : UInt64) (z : Int) (h : uval x = .int .u64 z) : NOwn (w.alloc (.cells #[.int .u64 z] 54)) w.heap.size (some ⟨w.heap.size, 0, none⟩) 1 1 [x] := by
  have := ROwn.lit (f := uval) (e := 54) w w.heap.size [x] (Nat.le_refl _) (by simp only [maxLen, List.length_singleton]; omega)
  simp only [List.map_cons, List.map_nil, h] at this
  exact this
theorem bit_byte {b s : Nat} : ((b : Int) / 2 ^ s).tmod 2 = ((b / 2 ^ s % 2 : Nat) : Int) := bit_int rfl

set_option maxHeartbeats 2000000 in
theorem refUnpack_any (A : Option Addr) (m cap B : Nat) (y z : Int) (b : List UInt8) (w : World) (hl : b.length = m) (hb : Bytes w B A b) (hB : B ≤ w.heap.size) (hm : m ≤ 140737488355328) :
    Calls Try.prog 41 #[.slice A m cap, .int .i64 y, .int .i64 z] w (UnpackPost w (Bits.unpack b y z)) := by
  by_cases hw : z < 0 ∨ 64 < z ∨ y < 0 ∨ 4096 < y
  · have e : Bits.unpack b y z = ([], 1) := by unfold Bits.unpack; rw [if_pos hw]
    rw [e]
    clear e hl hb
    by_cases h1 : z < 0
    · go_enter Try.func41, Try.ntmps41
      go_wp2
      go_ret2
      exact ⟨none, 0, rfl, nown_none _ _, Below.refl _ _⟩
    · by_cases h2 : 64 < z
      · go_enter Try.func41, Try.ntmps41
        go_wp2
        go_ret2
        exact ⟨none, 0, rfl, nown_none _ _, Below.refl _ _⟩
      · by_cases h3 : y < 0
        · go_enter Try.func41, Try.ntmps41
          go_wp2
          go_ret2
          exact ⟨none, 0, rfl, nown_none _ _, Below.refl _ _⟩
        · have h4 : 4096 < y := by omega
          go_enter Try.func41, Try.ntmps41
          go_wp2
          go_ret2
          exact ⟨none, 0, rfl, nown_none _ _, Below.refl _ _⟩
  · obtain ⟨v, rfl⟩ : ∃ v : Nat, z = v := ⟨z.toNat, by omega⟩
    obtain ⟨n, rfl⟩ : ∃ n : Nat, y = n := ⟨y.toNat, by omega⟩
    have hv : v ≤ 64 := by omega
    have hn : n ≤ 4096 := by omega
    obtain ⟨hS, hnv⟩ := Bits.size_le (show n ≤ 65536 by omega) hv
    have H2 := refSize_any n v w (by omega)
    by_cases h2 : b.length < Bits.size n v
    · have e : Bits.unpack b n v = ([], 3) := by unfold Bits.unpack; rw [if_neg hw, Int.toNat_natCast, Int.toNat_natCast, if_pos h2]
      rw [e]
      rw [hl] at h2
      clear e hl hb hw
      generalize Bits.size n v = S at *
      replace H2 := Lib.hid H2
      go_enter Try.func41, Try.ntmps41
      go_wp2_with fail
      refine H2.out.mono ?_
      rintro e w1 ⟨rfl, rfl⟩
      go_wp2
      go_ret2
      exact ⟨none, 0, rfl, nown_none _ _, Below.refl _ _⟩
    · by_cases h3 : Bits.size n v < b.length
      · have e : Bits.unpack b n v = ([], 2) := by unfold Bits.unpack; rw [if_neg hw, Int.toNat_natCast, Int.toNat_natCast, if_neg h2, if_pos (.inl h3)]
        rw [e]
        rw [hl] at h2 h3
        clear e hl hb hw
        generalize Bits.size n v = S at *
        replace H2 := Lib.hid H2
        go_enter Try.func41, Try.ntmps41
        go_wp2_with fail
        refine H2.out.mono ?_
        rintro e w1 ⟨rfl, rfl⟩
        go_wp2_with fail
        refine H2.out.mono ?_
        rintro e w1 ⟨rfl, rfl⟩
        go_wp2
        go_ret2
        exact ⟨none, 0, rfl, nown_none _ _, Below.refl _ _⟩
      · obtain rfl : m = Bits.size n v := by omega
        have hval := Num.val_lt b
        rw [hl, Bits.pow256] at hval
        have hbad : 2 ^ (n * v) ≤ Num.val b → Bits.unpack b n v = ([], 2) := fun h4 => by
          unfold Bits.unpack; rw [if_neg hw, Int.toNat_natCast, Int.toNat_natCast, if_neg h2, if_pos (.inr h4)]
        have hgood : Num.val b < 2 ^ (n * v) → Bits.unpack b n v = (Bits.parts n v (Num.val b), 0) := fun h4 => by
          unfold Bits.unpack; rw [if_neg hw, Int.toNat_natCast, Int.toNat_natCast, if_neg h2, if_neg (by omega)]
        have hd : n * v ≤ 8 * Bits.size n v := by unfold Bits.size; omega
        have hP : (n : Int) * (v : Int) = ((n * v : Nat) : Int) := by rw [Int.natCast_mul]
        replace H2 := Lib.hid H2
        have Hl := Lib.hid hl
        have Hbad := Lib.hid hbad
        have Hgood := Lib.hid hgood
        have Hvl := Lib.hid hval
        clear hl hw h2 h3 hval hbad hgood
        generalize Bits.size n v = S at *
        go_enter Try.func41, Try.ntmps41
        go_wp2_with fail
        refine H2.out.mono ?_
        rintro e w1 ⟨rfl, rfl⟩
        go_wp2_with fail
        refine H2.out.mono ?_
        rintro e w1 ⟨rfl, rfl⟩
        clear H2
        go_wp2
        go_loopw [8, 9] (fun s i wr => ∃ (k : Nat) (A' : Option Addr) (c : Nat), k ≤ n ∧ i = .int .i64 k ∧ s = .slice A' k c ∧ NOwn wr w.heap.size A' k c (Bits.parts k v (Num.val b)) ∧ Below w.heap.size w wr) (fun _ i _ => n - (intOf i).toNat)
        case atStart => exact ⟨0, none, 0, by omega, rfl, rfl, nown_none _ _, Below.refl _ _⟩
        case round =>
          obtain ⟨k, A', c, hk, rfl, rfl, ho, hbel⟩ := hrel
          have hb1 := (hb.wide hB).below hbel
          by_cases hlt : k < n
          · have hPk : (k : Int) * (v : Int) = ((k * v : Nat) : Int) := by rw [Int.natCast_mul]
            have hPn : k * v + v ≤ n * v := by rw [← Nat.succ_mul]; exact Nat.mul_le_mul_right v hlt
            have hps := Bits.parts_succ k v (Num.val b)
            have Hps := Lib.hid hps
            clear hps hP
            generalize k * v = P at *
            go_wp2
            go_loopw [10, 11] (fun s i wq => ∃ (j : Nat) (x : Int), j ≤ v ∧ i = .int .i64 j ∧ s = .int .u64 x ∧ x = ((Num.val b / 2 ^ P % 2 ^ j : Nat) : Int) ∧ wr = wq) (fun _ i _ => v - (intOf i).toNat)
            case atStart => exact ⟨0, 0, by omega, rfl, rfl, by simp [Nat.mod_one], rfl⟩
            case round =>
              obtain ⟨j, x, hj, rfl, rfl, hx, rfl⟩ := hrel
              have Hx := Lib.hid hx
              by_cases hjv : j < v
              · have hJ : (P + j) / 8 < b.length := by rw [Hl.out]; omega
                have hJS : (P + j) / 8 < S := by omega
                have hs8 : (P + j) % 8 < 8 := by omega
                have hquo : ((P : Int) + (j : Int)) / 8 = (((P + j) / 8 : Nat) : Int) := by omega
                have hrem : ((P : Int) + (j : Int)) % 8 = (((P + j) % 8 : Nat) : Int) := by omega
                obtain ⟨ad, rfl, _, hcell⟩ := hb1.get hJ
                have hb256 := Num.byte_lt b[(P + j) / 8]
                have hvb := Bits.val_bit hJ
                rw [Nat.pow_add, ← Nat.div_div_eq_div_mul] at hvb
                have hbit := bit_byte (b := b[(P + j) / 8].toNat) (s := (P + j) % 8)
                rw [← hvb] at hbit
                have hms := Bits.mod_succ (Num.val b / 2 ^ P) j
                have hmj : Num.val b / 2 ^ P % 2 ^ j < 2 ^ j := Nat.mod_lt _ (Bits.pow_pos j)
                have hpj : 2 ^ (j + 1) ≤ 18446744073709551616 := Bits.pow_le64 (by omega)
                rw [Nat.pow_succ] at hpj
                generalize b[(P + j) / 8].toNat = bb at *
                clear hJ hvb
                generalize (P + j) / 8 = J at *
                generalize (P + j) % 8 = s at *
                by_cases h1 : Num.val b / 2 ^ P / 2 ^ j % 2 = 1
                · rw [h1, Int.natCast_one] at hbit
                  rw [h1, Nat.mul_one] at hms
                  have hpow : (2 : Int) ^ j = ((2 ^ j : Nat) : Int) := by rw [Int.natCast_pow]; rfl
                  have hx' : x + ((2 ^ j : Nat) : Int) = ((Num.val b / 2 ^ P % 2 ^ (j + 1) : Nat) : Int) := by rw [hms, hx, Int.natCast_add]
                  have hx0 : 0 ≤ x := by omega
                  have hxq : x < ((2 ^ j : Nat) : Int) := by omega
                  have Hx' := Lib.hid hx'
                  clear h1 hms hx' hx Hx hmj
                  generalize 2 ^ j = Q at *
                  go_wp2
                  go_roundw
                  case rel => exact ⟨j + 1, _, by omega, by go_num, rfl, Hx'.out, trivial⟩
                  case measure => simp [intOf]; omega
                · have h0 : Num.val b / 2 ^ P / 2 ^ j % 2 = 0 := by omega
                  rw [h0, Int.natCast_zero] at hbit
                  rw [h0, Nat.mul_zero, Nat.add_zero, ] at hms
                  have Hms := Lib.hid hms
                  clear h1 h0 hms hmj hpj hx
                  go_wp2
                  go_roundw
                  case rel => exact ⟨j + 1, x, by omega, by go_num, rfl, by rw [Hms.out]; exact Hx.out, trivial⟩
                  case measure => simp [intOf]; omega
              · obtain rfl : j = v := by omega
                have hx64 : Num.val b / 2 ^ P % 2 ^ j < 18446744073709551616 := Nat.lt_of_lt_of_le (Nat.mod_lt _ (Bits.pow_pos j)) (Bits.pow_le64 hv)
                have hone := nown_one wr (UInt64.ofNat (Num.val b / 2 ^ P % 2 ^ j)) x (by rw [uval_small hx64, hx])
                have hr1 := hone.row
                have ho1 := ho.alloc (.cells #[.int .u64 x] 54)
                have hbel2 : Below w.heap.size w (wr.alloc (.cells #[.int .u64 x] 54)) := hbel.alloc hbel.size _
                have hsz : w.heap.size ≤ (wr.alloc (.cells #[.int .u64 x] 54)).heap.size := hbel2.size
                have Hlt := fun k' => Lib.hid fun hk => (ho1.lt (k := k') hk).1
                clear hone ho hx Hx hx64 hb1
                go_wp2_with (at_builtin; refine wpList_append_row elem64 rfl (.tmp 71) (.tmp 73) rfl w.heap.size A' k c _ rfl ho1 _ _ 1 1 [UInt64.ofNat (Num.val b / 2 ^ P % 2 ^ j)] rfl rfl hr1 (by omega) (by simp only [maxLen]; omega) hsz ?_; intro A2 c2 w2 ho3 hg3 hat3)
                have hbw2 := hbel2.grown hg3 hsz (fun k hk => (Hlt k).out hk)
                rw [← Hps.out] at ho3
                go_roundw
                case rel => exact ⟨k + 1, A2, c2, by omega, by go_num, rfl, ho3, hbw2⟩
                case measure => simp [intOf]; omega
          · obtain rfl : k = n := by omega
            have Hmod0 : Num.val b % 2 ^ (k * v) < 2 ^ (k * v) := Nat.mod_lt _ (Bits.pow_pos _)
            generalize k * v = P at *
            go_wp2
            go_loopw [12] (fun i wq => ∃ (q : Nat), P ≤ q ∧ q ≤ 8 * S ∧ i = .int .i64 q ∧ Num.val b % 2 ^ q < 2 ^ P ∧ wr = wq) (fun i _ => 8 * S - (intOf i).toNat)
            case atStart => exact ⟨P, by omega, hd, rfl, Hmod0, rfl⟩
            case round =>
              clear Hmod0
              obtain ⟨q, hq1, hq2, rfl, hmod, rfl⟩ := hrel
              have Hmod := Lib.hid hmod
              by_cases hq : q < 8 * S
              · have hJ : q / 8 < b.length := by rw [Hl.out]; omega
                have hJS : q / 8 < S := by omega
                have hs8 : q % 8 < 8 := by omega
                have hquo : (q : Int) / 8 = ((q / 8 : Nat) : Int) := by omega
                have hrem : (q : Int) % 8 = ((q % 8 : Nat) : Int) := by omega
                obtain ⟨ad, rfl, _, hcell⟩ := hb1.get hJ
                have hb256 := Num.byte_lt b[q / 8]
                have hvb := Bits.val_bit hJ
                have hbit := bit_byte (b := b[q / 8].toNat) (s := q % 8)
                rw [← hvb] at hbit
                generalize b[q / 8].toNat = bb at *
                clear hJ hvb hmod
                generalize q / 8 = J at *
                generalize q % 8 = s at *
                by_cases h1 : Num.val b / 2 ^ q % 2 = 1
                · rw [h1, Int.natCast_one] at hbit
                  have hge : 2 ^ P ≤ Num.val b := by
                    have h2 : (2 : Nat) ^ P ≤ 2 ^ q := Nat.pow_le_pow_right (by omega) hq1
                    rcases Nat.lt_or_ge (Num.val b) (2 ^ q) with h3 | h3
                    · rw [Nat.div_eq_of_lt h3] at h1; omega
                    · omega
                  have Hres := Lib.hid (Hbad.out hge)
                  clear h1 hge
                  go_wp2
                  go_ret2
                  rw [Hres.out]
                  exact ⟨none, 0, rfl, nown_none _ _, hbel⟩
                · have h0 : Num.val b / 2 ^ q % 2 = 0 := by omega
                  rw [h0, Int.natCast_zero] at hbit
                  have hnext : Num.val b % 2 ^ (q + 1) < 2 ^ P := by rw [Bits.mod_succ, h0, Nat.mul_zero, Nat.add_zero]; exact Hmod.out
                  have Hnext := Lib.hid hnext
                  clear h1 h0 hnext
                  go_wp2
                  go_roundw
                  case rel => exact ⟨q + 1, by omega, by omega, by go_num, Hnext.out, trivial⟩
                  case measure => simp [intOf]; omega
              · obtain rfl : q = 8 * S := by omega
                have hres : Num.val b < 2 ^ P := by
                  have := Hmod.out
                  rwa [Nat.mod_eq_of_lt Hvl.out] at this
                have Hres := Lib.hid (Hgood.out hres)
                clear hres hmod
                go_wp2
                go_ret2
                rw [Hres.out]
                refine ⟨A', c, ?_, ?_, hbel⟩
                · rw [Bits.parts_length]; rfl
                · rw [Bits.parts_length]; exact ho
end Go.Proofs.Ytgjopffdgdimlaa

/- pfor's small functions: isBlockLength, packedSize, isException, numberSize; slices.Min. -/
namespace Go.Proofs.Ytgjopffdgdimlaa
open Go.RowKit
set_option maxRecDepth 100000

theorem isBlockLength_any (z : Int) (w : World) : Calls Try.prog 92 #[.int .i64 z] w fun e w' => e = .returned (.bool (decide (1 ≤ z ∧ z ≤ 32))) ∧ w = w' := by
  by_cases h1 : 1 ≤ z
  · by_cases h2 : z ≤ 32
    · rw [decide_eq_true ⟨h1, h2⟩]
      go_enter Try.func92, Try.ntmps92
      go_wp2
      go_ret
      exact ⟨rfl, rfl⟩
    · rw [decide_eq_false (fun h => h2 h.2)]
      go_enter Try.func92, Try.ntmps92
      go_wp2
      go_ret
      exact ⟨rfl, rfl⟩
  · rw [decide_eq_false (fun h => h1 h.1)]
    go_enter Try.func92, Try.ntmps92
    go_wp2
    go_ret
    exact ⟨rfl, rfl⟩

theorem ppackedSize_any (n v : Nat) (w : World) (hp : n * v ≤ 1000000000000000) :
    Calls Try.prog 93 #[.int .i64 (n : Int), .int .i64 (v : Int)] w fun e w' => e = .returned (.int .i64 (Bits.size n v : Int)) ∧ w = w' := by
  have hs : (Bits.size n v : Int) = ((n : Int) * (v : Int) + 7) / 8 := by unfold Bits.size; rw [Int.natCast_ediv, Int.natCast_add, Int.natCast_mul]; rfl
  have hp0 : 0 ≤ (n : Int) * (v : Int) := Int.mul_nonneg (by omega) (by omega)
  have hp1 : (n : Int) * (v : Int) ≤ 1000000000000000 := by rw [← Int.natCast_mul]; omega
  clear hp
  go_enter Try.func93, Try.ntmps93
  go_wp2
  go_ret
  exact ⟨by rw [hs]; rfl, rfl⟩

/-- a number shifted right, as a letter -/
theorem shr_nat {x v : Nat} {z : Int} (hz : z = (x : Int)) : z / 2 ^ v = ((x / 2 ^ v : Nat) : Int) := by rw [hz, Int.natCast_ediv, Int.natCast_pow]; rfl

theorem isException_any (x v : Nat) (z : Int) (w : World) (hz : z = (x : Int)) (hx : x < 18446744073709551616) (hv : v ≤ 64) :
    Calls Try.prog 85 #[.int .u64 z, .int .i64 (v : Int)] w fun e w' => e = .returned (.bool (decide (x / 2 ^ v ≠ 0))) ∧ w = w' := by
  obtain ⟨h0, h1⟩ : 0 ≤ z ∧ z ≤ 18446744073709551615 := ⟨by omega, by omega⟩
  have hd : decide (x / 2 ^ v ≠ 0) = (z / 2 ^ v != 0) := by
    rw [shr_nat hz, Bool.eq_iff_iff, decide_eq_true_iff, bne_iff_ne]
    omega
  rw [hd]
  clear hx hz hd
  go_enter Try.func85, Try.ntmps85
  go_wp2
  go_ret
  exact ⟨rfl, rfl⟩

theorem Bits.width_one {v : Nat} (hv : v < 18446744073709551616) : Bits.size 1 (Bits.width [UInt64.ofNat v]) = Num.width v := by
  unfold Bits.width Bits.orAll Bits.size Num.width
  rw [List.foldl_cons, List.foldl_nil, Bits.toNat_ofNat hv, Nat.zero_or, Nat.one_mul]

theorem nown_lit1 (w : World) (x : UInt64) (z : Int) (h : uval x = .int .u64 z) : NOwn (w.alloc (.cells #[.int .u64 z] 54)) w.heap.size (some ⟨w.heap.size, 0, none⟩) 1 1 [x] := by
  have h1 := ROwn.lit (f := uval) (e := 54) w w.heap.size [x] (Nat.le_refl _) (by simp [maxLen])
  rw [show ([x].map uval).toArray = #[uval x] from rfl, h] at h1
  exact h1

theorem numberSize_any (v : Nat) (z : Int) (w : World) (hz : z = (v : Int)) (hv : v < 18446744073709551616) :
    Calls Try.prog 96 #[.int .u64 z] w fun e w' => e = .returned (.int .i64 (Num.size v : Int)) ∧ Below w.heap.size w w' := by
  obtain ⟨h0, h1⟩ : 0 ≤ z ∧ z ≤ 18446744073709551615 := ⟨by omega, by omega⟩
  by_cases hs : v ≤ 247
  · have hsz : Num.size v = 1 := by unfold Num.size; rw [if_pos hs]
    rw [hsz]
    have hs' : z ≤ 247 := by omega
    clear hz hv hs h1 hsz
    go_enter Try.func96, Try.ntmps96
    go_wp2
    go_ret
    exact ⟨rfl, Below.refl _ _⟩
  · have hsz : Num.size v = 1 + Num.width v := by unfold Num.size; rw [if_neg hs]
    have h8 := Num.width_le8 hv
    have hb : uval (UInt64.ofNat v) = .int .u64 z := by unfold uval; rw [Bits.toNat_ofNat hv, hz]
    have hown := nown_lit1 w (UInt64.ofNat v) z hb
    have hbel : Below w.heap.size w (w.alloc (.cells #[.int .u64 z] 54)) := (Below.refl _ _).alloc (Nat.le_refl _) _
    have H1 := Lib.hid (width_any _ 1 1 _ [UInt64.ofNat v] _ rfl (by omega) hown.row)
    have hw64 := Bits.width_le64 [UInt64.ofNat v]
    have H2 := ppackedSize_any 1 (Bits.width [UInt64.ofNat v]) (w.alloc (.cells #[.int .u64 z] 54)) (by omega)
    rw [Bits.width_one hv] at H2
    replace H2 := Lib.hid H2
    rw [hsz]
    have hs' : ¬ z ≤ 247 := by omega
    clear hz hv hs hsz hb hown
    generalize Bits.width [UInt64.ofNat v] = W at *
    generalize Num.width v = K at *
    go_enter Try.func96, Try.ntmps96
    go_wp2_with fail
    refine H1.out.mono ?_
    rintro e w1 ⟨rfl, rfl⟩
    go_wp2_with fail
    refine H2.out.mono ?_
    rintro e w1 ⟨rfl, rfl⟩
    clear H1 H2
    go_wp2
    go_ret
    exact ⟨by go_num, hbel⟩

set_option maxHeartbeats 400000 in
theorem min_any (A : Option Addr) (n cap B : Nat) (l : List UInt64) (w : World) (hl : l.length = n) (h1 : 1 ≤ n) (hn : n ≤ 1000000) (hb : Nums w B A l) :
    Calls Try.prog 81 #[.slice A n cap] w fun e w' => e = .returned (.int .u64 (Pfor.base l : Int)) ∧ w = w' := by
  rcases l with _ | ⟨x, r⟩
  · simp at hl; omega
  have hl' : r.length + 1 = n := by simpa using hl
  obtain ⟨ad, rfl, hlt', hcell⟩ := hb.get (k := 0) (by simp)
  simp only [uval, List.getElem_cons_zero, Addr.add, if_true] at hcell
  obtain ⟨z0, hz0⟩ : ∃ z0 : Int, z0 = (x.toNat : Int) := ⟨_, rfl⟩
  rw [← hz0] at hcell
  have Hz0 := Lib.hid hz0; clear hz0
  have Hl := Lib.hid hl'; clear hl hl'
  go_enter Try.func81, Try.ntmps81
  go_wp2
  go_loopw [3, 4] (fun s i wr => ∃ (j : Nat) (y : Int), 1 ≤ j ∧ j ≤ n ∧ i = .int .i64 j ∧ s = .int .u64 y ∧ y = (Pfor.leastOf x.toNat (r.take (j - 1)) : Int) ∧ w = wr) (fun _ i _ => n - (intOf i).toNat)
  case atStart => exact ⟨1, z0, by omega, by omega, rfl, rfl, Hz0.out, rfl⟩
  case round =>
    obtain ⟨j, y, hj, hk, rfl, rfl, hy, rfl⟩ := hrel
    have Hy := Lib.hid hy; clear hy
    by_cases hlt : j < n
    · have hk' : j - 1 < r.length := by have := Hl.out; omega
      obtain ⟨ad2, h2, hlt2, hcell2⟩ := hb.get (k := j) (by simp; have := Hl.out; omega)
      cases h2
      simp only [uval] at hcell2
      have e : (x :: r)[j]'(by simp; have := Hl.out; omega) = r[j - 1] := by
        obtain ⟨i, rfl⟩ : ∃ i, j = i + 1 := ⟨j - 1, by omega⟩
        rfl
      rw [e] at hcell2
      obtain ⟨z, hz⟩ : ∃ z : Int, z = (r[j - 1].toNat : Int) := ⟨_, rfl⟩
      rw [← hz] at hcell2
      have Hmin := Lib.hid (Pfor.leastOf_take_succ x.toNat hk')
      have Hz := Lib.hid hz; clear hz e
      go_wp2
      go_roundw
      case rel =>
        refine ⟨j + 1, _, by omega, by omega, by go_num, rfl, ?_, trivial⟩
        have h1 := Hmin.out
        rw [show j - 1 + 1 = j + 1 - 1 from by omega] at h1
        rw [h1, Hy.out, Hz.out]
        split <;> omega
      case measure => simp [intOf]; omega
    · obtain rfl : n = j := by omega
      go_wp2
      go_ret
      refine ⟨?_, rfl⟩
      rw [Hy.out, List.take_of_length_le (by have := Hl.out; omega)]
      rfl
end Go.Proofs.Ytgjopffdgdimlaa

/- pfor.countExceptions, bodySize, bestWidth, packLowBits. -/
namespace Go.Proofs.Ytgjopffdgdimlaa
open Go.RowKit
set_option maxRecDepth 100000

theorem div_eq_zero_or (d v : Nat) : decide (d / 2 ^ v ≠ 0) = true ∧ d / 2 ^ v ≠ 0 ∨ decide (d / 2 ^ v ≠ 0) = false ∧ d / 2 ^ v = 0 := by
  by_cases h : d / 2 ^ v = 0
  · exact .inr ⟨decide_eq_false (fun hn => hn h), h⟩
  · exact .inl ⟨decide_eq_true h, h⟩

set_option maxHeartbeats 400000 in
theorem countExceptions_any (A : Option Addr) (n cap B v : Nat) (l : List UInt64) (w : World) (hl : l.length = n) (hn : n ≤ 1000000) (hv : v ≤ 64) (hb : Nums w B A l) :
    Calls Try.prog 83 #[.slice A n cap, .int .i64 (v : Int)] w fun e w' => e = .returned (.int .i64 (Pfor.cnt v l : Int)) ∧ w = w' := by
  have Hl := Lib.hid hl; clear hl
  go_enter Try.func83, Try.ntmps83
  go_wp2
  go_loopw [5, 10] (fun s i wr => ∃ (k C : Nat), k ≤ n ∧ i = .int .i64 k ∧ s = .int .i64 C ∧ C ≤ k ∧ C = Pfor.cnt v (l.take k) ∧ w = wr) (fun _ i _ => n - (intOf i).toNat)
  case atStart => exact ⟨0, 0, by omega, rfl, rfl, by omega, rfl, rfl⟩
  case round =>
    obtain ⟨k, C, hk, rfl, rfl, hCk, hC, rfl⟩ := hrel
    have HC := Lib.hid hC; clear hC
    by_cases hlt : k < n
    · have hk' : k < l.length := by have := Hl.out; omega
      obtain ⟨ad, rfl, hlt', hcell⟩ := hb.get hk'
      simp only [uval] at hcell
      obtain ⟨z, hz⟩ : ∃ z : Int, z = (l[k].toNat : Int) := ⟨_, rfl⟩
      have H1 := isException_any l[k].toNat v z w hz (Bits.u64_lt _) hv
      have Hs := Pfor.cnt_take_succ v hk'
      rw [← hz] at hcell
      clear hz
      rcases div_eq_zero_or l[k].toNat v with ⟨hd, h0⟩ | ⟨hd, h0⟩
      · rw [hd] at H1
        rw [if_neg h0] at Hs
        replace H1 := Lib.hid H1
        replace Hs := Lib.hid Hs
        clear hd h0
        go_wp2_with fail
        refine H1.out.mono ?_
        rintro e w1 ⟨rfl, rfl⟩
        clear H1
        go_wp2
        go_roundw
        case rel => exact ⟨k + 1, C + 1, by omega, by go_num, by go_num, by omega, by rw [Hs.out, HC.out], trivial⟩
        case measure => simp [intOf]; omega
      · rw [hd] at H1
        rw [if_pos h0] at Hs
        replace H1 := Lib.hid H1
        replace Hs := Lib.hid Hs
        clear hd h0
        go_wp2_with fail
        refine H1.out.mono ?_
        rintro e w1 ⟨rfl, rfl⟩
        clear H1
        go_wp2
        go_roundw
        case rel => exact ⟨k + 1, C, by omega, by go_num, by go_num, by omega, by rw [Hs.out, HC.out]; rfl, trivial⟩
        case measure => simp [intOf]; omega
    · obtain rfl : k = n := by omega
      go_wp2
      go_ret
      refine ⟨?_, rfl⟩
      rw [HC.out, List.take_of_length_le (by rw [Hl.out]; exact Nat.le_refl _)]
      rfl

set_option maxHeartbeats 400000 in
theorem bodySize_any (A : Option Addr) (n cap B v : Nat) (l : List UInt64) (w : World) (hl : l.length = n) (hn : n ≤ 32) (hv : v ≤ 64) (hb : Nums w B A l) (hB : B ≤ w.heap.size) :
    Calls Try.prog 91 #[.slice A n cap, .int .i64 (v : Int)] w fun e w' => e = .returned (.int .i64 (Pfor.bodySize v l : Int)) ∧ Below w.heap.size w w' := by
  have hb := hb.wide hB
  have hnv : n * v ≤ 32 * 64 := Nat.mul_le_mul hn hv
  have H0 := Lib.hid (ppackedSize_any n v w (by omega))
  have hS : Bits.size n v ≤ 256 := by unfold Bits.size; omega
  have hbs : Pfor.bodySize v l = Bits.size n v + (Pfor.excs v 0 l).length := by unfold Pfor.bodySize; rw [hl]
  rw [hbs]
  have Hl := Lib.hid hl; clear hl hnv hbs
  generalize Bits.size n v = S at *
  go_enter Try.func91, Try.ntmps91
  go_wp2_with fail
  refine H0.out.mono ?_
  rintro e w1 ⟨rfl, rfl⟩
  clear H0
  go_wp2
  go_loopw [5, 14] (fun s i wr => ∃ (k C : Nat), k ≤ n ∧ i = .int .i64 k ∧ s = .int .i64 ((S : Int) + C) ∧ C ≤ 10 * k ∧ C = (Pfor.excs v 0 (l.take k)).length ∧ Below w.heap.size w wr) (fun _ i _ => n - (intOf i).toNat)
  case atStart => exact ⟨0, 0, by omega, rfl, by go_num, by omega, rfl, Below.refl _ _⟩
  case round =>
    obtain ⟨k, C, hk, rfl, rfl, hCk, hC, hbel⟩ := hrel
    have HC := Lib.hid hC; clear hC
    have hbr := hb.below hbel
    by_cases hlt : k < n
    · have hk' : k < l.length := by have := Hl.out; omega
      obtain ⟨ad, rfl, hlt', hcell⟩ := hbr.get hk'
      simp only [uval] at hcell
      obtain ⟨z, hz, hz0, hz1⟩ : ∃ z : Int, z = (l[k].toNat : Int) ∧ 0 ≤ z ∧ z ≤ 18446744073709551615 := ⟨_, rfl, by omega, by have := Bits.u64_lt l[k]; omega⟩
      have H1 := isException_any l[k].toNat v z wr hz (Bits.u64_lt _) hv
      have H2 := fun w' => numberSize_any (l[k].toNat / 2 ^ v) (z / 2 ^ v) w' (shr_nat hz) (Pfor.div_lt _ _)
      have h9 := Num.size_le9 (Pfor.div_lt l[k] v)
      have Hs := congrArg List.length (Pfor.excs_take_succ v hk')
      rw [List.length_append, Pfor.exc_length] at Hs
      rw [← hz] at hcell
      clear hz
      rcases div_eq_zero_or l[k].toNat v with ⟨hd, h0⟩ | ⟨hd, h0⟩
      · rw [hd] at H1
        rw [if_neg h0] at Hs
        replace H1 := Lib.hid H1
        replace H2 := Lib.hid H2
        replace Hs := Lib.hid Hs
        clear hd h0
        generalize Num.size (l[k].toNat / 2 ^ v) = m at *
        go_wp2_with fail
        refine H1.out.mono ?_
        rintro e w1 ⟨rfl, rfl⟩
        clear H1
        go_wp2_with fail
        refine (H2.out _).mono ?_
        rintro e w2 ⟨rfl, hb2⟩
        clear H2
        go_wp2
        go_roundw
        case rel => exact ⟨k + 1, C + (1 + m), by omega, by go_num, by go_num, by omega, by rw [Hs.out, HC.out], hbel.trans (hb2.mono hbel.size)⟩
        case measure => simp [intOf]; omega
      · rw [hd] at H1
        rw [if_pos h0] at Hs
        replace H1 := Lib.hid H1
        replace Hs := Lib.hid Hs
        clear hd h0 H2 h9
        go_wp2_with fail
        refine H1.out.mono ?_
        rintro e w1 ⟨rfl, rfl⟩
        clear H1
        go_wp2
        go_roundw
        case rel => exact ⟨k + 1, C, by omega, by go_num, by go_num, by omega, by rw [Hs.out, HC.out]; rfl, hbel⟩
        case measure => simp [intOf]; omega
    · obtain rfl : k = n := by omega
      go_wp2
      go_ret
      refine ⟨?_, hbel⟩
      rw [HC.out, List.take_of_length_le (by rw [Hl.out]; exact Nat.le_refl _)]
      rfl
end Go.Proofs.Ytgjopffdgdimlaa

/- pfor.bestWidth. -/
namespace Go.Proofs.Ytgjopffdgdimlaa
open Go.RowKit
set_option maxRecDepth 100000

set_option maxHeartbeats 400000 in
theorem bestWidth_any (A : Option Addr) (n cap B : Nat) (l : List UInt64) (w : World) (hl : l.length = n) (hn : n ≤ 32) (hb : Nums w B A l) (hB : B ≤ w.heap.size) :
    Calls Try.prog 82 #[.slice A n cap] w fun e w' => e = .returned (.int .i64 (Pfor.best (fun v => Pfor.bodySize v l) (Bits.width l) : Int)) ∧ Below w.heap.size w w' := by
  have hb := hb.wide hB
  have H0 := Lib.hid (fun (wr : World) (hbel : Below w.heap.size w wr) => width_any A n cap _ l wr hl (by omega) (hb.below hbel))
  have H1 := Lib.hid (fun (v : Nat) (hv : v ≤ 64) (wr : World) (hbel : Below w.heap.size w wr) => bodySize_any A n cap _ v l wr hl hn hv (hb.below hbel) hbel.size)
  have hW := Bits.width_le64 l
  have hsz := Lib.hid (fun v (hv : v ≤ 64) => Pfor.bodySize_le hv (show l.length ≤ 32 by omega))
  clear hl hb
  generalize Bits.width l = W at *
  have H2 := Lib.hid (H1.out 0 (by omega) w (Below.refl _ _))
  obtain ⟨f, hf⟩ : ∃ f : Nat → Nat, f = fun v => Pfor.bodySize v l := ⟨_, rfl⟩
  have hf' : ∀ v, Pfor.bodySize v l = f v := fun v => by rw [hf]
  rw [← hf]
  simp only [hf'] at H1 H2 hsz
  clear hf hf'
  go_enter Try.func82, Try.ntmps82
  go_wp2_with fail
  refine H2.out.mono ?_
  rintro e w1 ⟨rfl, hb1⟩
  clear H2
  go_wp2
  go_loopw [3, 4, 5] (fun b s i wr => ∃ (j m F : Nat), 1 ≤ j ∧ j ≤ W + 1 ∧ i = .int .i64 j ∧ b = .int .i64 m ∧ m ≤ 64 ∧ s = .int .i64 F ∧ m = Pfor.best f (j - 1) ∧ F = f m ∧ Below w.heap.size w wr) (fun _ _ i _ => 65 - (intOf i).toNat)
  case atStart => exact ⟨1, 0, f 0, by omega, by omega, rfl, rfl, by omega, rfl, rfl, rfl, hb1⟩
  case round =>
    obtain ⟨j, m, F, hj1, hk, rfl, rfl, hm64, rfl, hm, hF, hbel⟩ := hrel
    have hF5 := hsz.out m hm64
    rw [← hF] at hF5
    have Hm := Lib.hid hm; clear hm
    have HF := Lib.hid hF; clear hF
    have C0 := Lib.hid (H0.out wr hbel)
    by_cases hlt : j ≤ W
    · have C1 := H1.out j (by omega) wr hbel
      have hG5 := hsz.out j (by omega)
      obtain ⟨G, hG⟩ : ∃ G, G = f j := ⟨_, rfl⟩
      rw [← hG] at C1
      rw [← hG] at hG5
      replace C1 := Lib.hid C1
      have HG := Lib.hid hG; clear hG
      have hbst : Pfor.best f j = if f j < f (Pfor.best f (j - 1)) then j else Pfor.best f (j - 1) := by
        obtain ⟨i, rfl⟩ : ∃ i, j = i + 1 := ⟨j - 1, by omega⟩
        rfl
      rw [← Hm.out, ← HF.out, ← HG.out] at hbst
      replace hbst := Lib.hid hbst
      by_cases hless : G < F
      · go_wp2_with fail
        refine C0.out.mono ?_
        rintro e w2 ⟨rfl, rfl⟩
        go_wp2_with fail
        refine C1.out.mono ?_
        rintro e w2 ⟨rfl, hb2⟩
        clear C0 C1
        go_wp2
        go_roundw
        case rel => exact ⟨j + 1, j, G, by omega, by omega, by go_num, rfl, by omega, rfl, by rw [Nat.add_sub_cancel, hbst.out, if_pos hless], HG.out, hbel.trans (hb2.mono hbel.size)⟩
        case measure => simp [intOf]; omega
      · go_wp2_with fail
        refine C0.out.mono ?_
        rintro e w2 ⟨rfl, rfl⟩
        go_wp2_with fail
        refine C1.out.mono ?_
        rintro e w2 ⟨rfl, hb2⟩
        clear C0 C1
        go_wp2
        go_roundw
        case rel => exact ⟨j + 1, m, F, by omega, by omega, by go_num, rfl, hm64, rfl, by rw [Nat.add_sub_cancel, hbst.out, if_neg hless], HF.out, hbel.trans (hb2.mono hbel.size)⟩
        case measure => simp [intOf]; omega
    · obtain rfl : j = W + 1 := by omega
      go_wp2_with fail
      refine C0.out.mono ?_
      rintro e w2 ⟨rfl, rfl⟩
      clear C0
      go_wp2
      go_ret
      exact ⟨by rw [Hm.out]; rfl, hbel⟩
end Go.Proofs.Ytgjopffdgdimlaa

/- pfor.packLowBits. -/
namespace Go.Proofs.Ytgjopffdgdimlaa
open Go.RowKit
set_option maxRecDepth 100000

/-- what a made slice holds when k of its cells are stored -/
theorem fill_set {α : Type} {l : List α} {n k : Nat} (z : α) (hl : l.length = n) (hk : k < n) : (l.take k ++ List.replicate (n - k) z).set k (l[k]'(by omega)) = l.take (k + 1) ++ List.replicate (n - (k + 1)) z := by
  have e : List.replicate (n - k) z = z :: List.replicate (n - (k + 1)) z := by rw [show n - k = (n - (k + 1)) + 1 from by omega, List.replicate_succ]
  have hlk : (l.take k).length = k := by simp; omega
  rw [e, List.set_append_right _ _ (by omega), hlk, Nat.sub_self, List.set_cons_zero, List.take_succ_eq_append_getElem (by omega), List.append_assoc]
  rfl
theorem fill_get {α : Type} {l : List α} {n k : Nat} (z : α) (hl : l.length = n) (hk : k < n) : ∃ h : k < (l.take k ++ List.replicate (n - k) z).length, (l.take k ++ List.replicate (n - k) z)[k] = z := by
  have hlk : (l.take k).length = k := by simp; omega
  refine ⟨by simp; omega, ?_⟩
  rw [List.getElem_append_right (by omega), List.getElem_replicate]

set_option maxHeartbeats 1000000 in
theorem packLowBits_any (A : Option Addr) (n cap B v : Nat) (l : List UInt64) (w : World) (hl : l.length = n) (hn : n ≤ 32) (hv : v ≤ 64) (hb : Nums w B A l) (hB : B ≤ w.heap.size) :
    Calls Try.prog 84 #[.slice A n cap, .int .i64 (v : Int)] w fun e w' => ∃ A' c, e = .returned (.slice A' (Bits.packed v (Pfor.lows v l)).length c) ∧
      Own w' w.heap.size A' (Bits.packed v (Pfor.lows v l)).length c (Bits.packed v (Pfor.lows v l)) ∧ Below w.heap.size w w' := by
  have hb := hb.wide hB
  have hmk := run_make_nums n (by omega) w
  have ho0 := own_nums w n (by simp only [maxLen]; omega)
  have hbel0 : Below w.heap.size w (w.alloc (.cells (madeCells #[.int .u64 0] n) 54)) := (Below.refl _ _).alloc (Nat.le_refl _) _
  generalize w.alloc (.cells (madeCells #[.int .u64 0] n) 54) = w0 at *
  have hll : (Pfor.lows v l).length = n := by rw [Pfor.lows_length, hl]
  have H1 := Lib.hid (fun (g c : Nat) (wr : World) (ho : NOwn wr w.heap.size (some ⟨g, 0, none⟩) n c (Pfor.lows v l)) => pack_any (some ⟨g, 0, none⟩) n c wr.heap.size v (Pfor.lows v l) wr hll (by omega) ho.row (Nat.le_refl _))
  rw [Bits.pack_ok hv (Pfor.lows_fit l)] at H1
  have Hll := Lib.hid hll
  have Hl := Lib.hid hl
  clear hll hl
  obtain ⟨g, hg⟩ : ∃ g, g = w.heap.size := ⟨_, rfl⟩
  rw [← hg] at hmk ho0 hbel0 H1 hb ⊢
  have Hg := Lib.hid hg; clear hg
  go_enter Try.func84, Try.ntmps84
  go_wp2
  go_loopw [15] (fun i wr => ∃ (k : Nat), k ≤ n ∧ i = .int .i64 k ∧ NOwn wr g (some ⟨g, 0, none⟩) n n ((Pfor.lows v l).take k ++ List.replicate (n - k) 0) ∧ Below g w wr) (fun i _ => n - (intOf i).toNat)
  case atStart => exact ⟨0, by omega, rfl, by simpa using ho0, hbel0⟩
  case round =>
    clear ho0 hbel0 hmk
    obtain ⟨k, hk, rfl, ho, hbel⟩ := hrel
    have hbr := hb.below hbel
    by_cases hlt : k < n
    · have hk' : k < l.length := by have := Hl.out; omega
      obtain ⟨ad, rfl, hlt', hcell⟩ := hbr.get hk'
      simp only [uval] at hcell
      obtain ⟨hg1, hg2⟩ := fill_get (0 : UInt64) Hll.out hlt
      have hold := ho.cell hg1
      rw [hg2] at hold
      have hold' : wr.cell? ⟨g, k, none⟩ = some (.int .u64 0) := hold
      have hfree := ho.free k
      have hst := ho.store k ((Pfor.lows v l)[k]'(by rw [Hll.out]; exact hlt))
      rw [fill_set (0 : UInt64) Hll.out hlt, Pfor.lows_get hk'] at hst
      obtain ⟨z, hz, hz0, hz1⟩ : ∃ z : Int, z = (l[k].toNat : Int) ∧ 0 ≤ z ∧ z ≤ 18446744073709551615 := ⟨_, rfl, by omega, by have := Bits.u64_lt l[k]; omega⟩
      have hm := mask (Y := l[k].toNat) hv hz (Bits.u64_lt _)
      have hu : uval (UInt64.ofNat (l[k].toNat % 2 ^ v)) = .int .u64 ((l[k].toNat % 2 ^ v : Nat) : Int) := by unfold uval; rw [Pfor.low_toNat]
      rw [hu, ← hm] at hst
      rw [← hz] at hcell
      have Hst := Lib.hid hst
      have Hbl := Lib.hid (hbel.setCell (p := ⟨g, k, none⟩) (Nat.le_refl _) (.int .u64 (bits .and .u64 z (IntKind.u64.wrap (IntKind.u64.wrap (2 ^ v) - 1)))))
      clear hst hu hm hz hold hg1 hg2 ho
      go_wp2
      go_roundw
      case rel => exact ⟨k + 1, by omega, by go_num, Hst.out, Hbl.out⟩
      case measure => simp [intOf]; omega
    · obtain rfl : k = n := by omega
      rw [Nat.sub_self, List.replicate_zero, List.append_nil, List.take_of_length_le (by rw [Hll.out]; exact Nat.le_refl _)] at ho
      have C1 := Lib.hid (H1.out g k wr ho)
      clear H1
      go_wp2_with fail
      refine C1.out.mono ?_
      rintro e w2 ⟨A2, c2, rfl, ho2, hb2⟩
      clear C1
      go_wp2
      go_ret
      rw [Hg.out] at hbel ⊢
      exact ⟨A2, c2, rfl, ho2.low hbel.size, hbel.trans (hb2.mono hbel.size)⟩
end Go.Proofs.Ytgjopffdgdimlaa

/- An append at a step of a region that draws its order; small literals of bytes. -/
namespace Go.Proofs.Ytgjopffdgdimlaa
open Go.RowKit
set_option maxRecDepth 100000

/-- append at a step of a region that draws its order -/
theorem step_append_bytes {w : World} {ops : Array Oper} {o : Oper} {a : Act} {K : Act → World → Prop} {Q : Exit → Act → World → Prop} {E : Prop} (hw : Region.wanted o (yielded ops a.tmps) = true) (s x : Operand)
    (ho : o.op = .call { callee := .builtin .append, args := #[s, x], argTypes := #[22, 22] })
    (base : Nat) (A : Option Addr) (n c : Nat) (l : List UInt8) (hs : a.eval s = .slice A n c) (hown : Own w base A n c l)
    (B : Nat) (A2 : Option Addr) (m c2 : Nat) (l2 : List UInt8) (hx : a.eval x = .slice A2 m c2) (hl2 : l2.length = m) (hb : Bytes w B A2 l2) (hbytes : n + m ≤ 140737488355328) (hbase : base ≤ w.heap.size)
    (h : ∀ A' c' w', Own w' base A' (n + m) c' (l ++ l2) → w.grownBy w' (blk A) → (blk A' = blk A ∨ blk A' = some w.heap.size) → K (a.put o.dst (.slice A' (n + m) c')) w') :
    if Region.wanted o (yielded ops a.tmps) = true then Oper.wp Try.prog o a w K Q else E := by
  obtain ⟨A', c', w', hrun, h2, h3, h4⟩ := run_append_bytes w base o.type A n c l hown B A2 m c2 l2 hl2 hb hbytes hbase
  rw [if_pos hw]
  unfold Oper.wp execOp
  simp only [ho, resolve, invoke, builtin, Sem.run_bind, Sem.run_pure, Result.andThen_ok, List.map_toArray, List.map_cons, List.map_nil, hs, hx, hrun]
  exact h A' c' w' h2 h3 h4

theorem own_byte (w : World) (b : UInt8) (x : Int) (h : bval b = .int .u8 x) : Own (w.alloc (.cells #[.int .u8 x] 5)) w.heap.size (some ⟨w.heap.size, 0, none⟩) 1 1 [b] := by
  have h1 := own_lit w w.heap.size [b] (Nat.le_refl _) (by simp [maxLen])
  rw [show (bvals [b]).toArray = #[bval b] from rfl, h] at h1
  exact h1
theorem own_byte2 (w : World) (b d : UInt8) (x y : Int) (h : bval b = .int .u8 x) (h2 : bval d = .int .u8 y) : Own (w.alloc (.cells #[.int .u8 x, .int .u8 y] 5)) w.heap.size (some ⟨w.heap.size, 0, none⟩) 2 2 [b, d] := by
  have h1 := own_lit w w.heap.size [b, d] (Nat.le_refl _) (by simp [maxLen])
  rw [show (bvals [b, d]).toArray = #[bval b, bval d] from rfl, h, h2] at h1
  exact h1
theorem bval_lt {x : Nat} (h : x < 256) : bval (UInt8.ofNat x) = .int .u8 (x : Int) := by unfold bval; rw [Num.toNat_ofNat, Nat.mod_eq_of_lt h]
end Go.Proofs.Ytgjopffdgdimlaa

/- pfor.encodeBlock: a block's bytes. -/
namespace Go.Proofs.Ytgjopffdgdimlaa
open Go.RowKit
set_option maxRecDepth 100000

/-- a slice at the start of block g is below g + 1 -/
theorem ROwn.rowAt {α : Type} {f : α → Value} {e : TypeId} {w : World} {base g n c : Nat} {l : List α} (h : ROwn f e w base (some ⟨g, 0, none⟩) n c l) : Row f w (g + 1) (some ⟨g, 0, none⟩) l := fun hn => by
  obtain ⟨ad, ha, _, hc⟩ := h.row hn
  cases ha
  exact ⟨_, rfl, Nat.lt_succ_self g, hc⟩

set_option maxHeartbeats 4000000 in
theorem encodeBlock_any (A : Option Addr) (n cap B : Nat) (l : List UInt64) (w : World) (hl : l.length = n) (h1 : 1 ≤ n) (hn : n ≤ 32) (hb : Nums w B A l) (hB : B ≤ w.heap.size) :
    Calls Try.prog 71 #[.slice A n cap] w (MadeIn w.heap.size w (Pfor.block l).length (Pfor.block l)) := by
  have hb := hb.wide hB
  have H0 := min_any A n cap _ l w hl h1 (by omega) hb
  obtain ⟨x, hx, hx0, hx1⟩ : ∃ x : Int, x = (Pfor.base l : Int) ∧ 0 ≤ x ∧ x ≤ 18446744073709551615 := ⟨_, rfl, by omega, by have := Pfor.base_lt l; omega⟩
  rw [← hx] at H0
  replace H0 := Lib.hid H0
  have hmk := run_make_nums n (by omega) w
  have ho0 := own_nums w n (by simp only [maxLen]; omega)
  have hbel0 : Below w.heap.size w (w.alloc (.cells (madeCells #[.int .u64 0] n) 54)) := (Below.refl _ _).alloc (Nat.le_refl _) _
  generalize w.alloc (.cells (madeCells #[.int .u64 0] n) 54) = w0 at *
  have hDl : (Pfor.diffs l).length = n := by rw [Pfor.diffs_length, hl]
  have HDl := Lib.hid hDl
  have Hl := Lib.hid hl
  obtain ⟨g, hg⟩ : ∃ g, g = w.heap.size := ⟨_, rfl⟩
  rw [← hg] at hmk ho0 hbel0 hb ⊢
  have Hg := Lib.hid hg
  have Hx := Lib.hid hx
  clear hDl hl hg hx
  have hW := Pfor.width_le l
  have hC : Pfor.cnt (Pfor.width l) (Pfor.diffs l) ≤ 32 := by have := Pfor.cnt_le (Pfor.width l) (Pfor.diffs l); have := HDl.out; omega
  -- what is called behind the first loop, in any world that keeps the differences
  have H1 := Lib.hid (fun (wr : World) (hD : Nums wr (g + 1) (some ⟨g, 0, none⟩) (Pfor.diffs l)) (hs : g + 1 ≤ wr.heap.size) => bestWidth_any (some ⟨g, 0, none⟩) n n _ (Pfor.diffs l) wr HDl.out hn hD hs)
  rw [Pfor.width_stop] at H1
  have H3 := Lib.hid (fun (wr : World) (hD : Nums wr (g + 1) (some ⟨g, 0, none⟩) (Pfor.diffs l)) => countExceptions_any (some ⟨g, 0, none⟩) n n _ (Pfor.width l) (Pfor.diffs l) wr HDl.out (by omega) hW hD)
  have H4 := Lib.hid (fun (wr : World) (hD : Nums wr (g + 1) (some ⟨g, 0, none⟩) (Pfor.diffs l)) (hs : g + 1 ≤ wr.heap.size) => packLowBits_any (some ⟨g, 0, none⟩) n n _ (Pfor.width l) (Pfor.diffs l) wr HDl.out hn hW hD hs)
  have hfin : Pfor.block l = (([UInt8.ofNat n] ++ Num.num (Pfor.base l)) ++ [UInt8.ofNat (Pfor.width l), UInt8.ofNat (Pfor.cnt (Pfor.width l) (Pfor.diffs l))]) ++ Bits.packed (Pfor.width l) (Pfor.lows (Pfor.width l) (Pfor.diffs l)) ++ Pfor.excs (Pfor.width l) 0 (Pfor.diffs l) := by
    have := Hl.out
    simp only [Pfor.block, Pfor.byW, Pfor.body, this, List.append_assoc, List.cons_append, List.nil_append]
  have hp256 : (Bits.packed (Pfor.width l) (Pfor.lows (Pfor.width l) (Pfor.diffs l))).length ≤ 256 := by
    have h2 : n * Pfor.width l ≤ 32 * 64 := Nat.mul_le_mul hn hW
    rw [Bits.packed_length, Pfor.lows_length, HDl.out]
    unfold Bits.size
    omega
  have hs9 := Num.size_le9 (Pfor.base_lt l)
  have hbv := bval_lt (show n < 256 by omega)
  have hbw := bval_lt (show Pfor.width l < 256 by omega)
  have hbc := bval_lt (show Pfor.cnt (Pfor.width l) (Pfor.diffs l) < 256 by omega)
  have Hfin := Lib.hid hfin; clear hfin
  have Hget := Lib.hid (fun (k : Nat) (hk : k < l.length) (h2 : k < (Pfor.diffs l).length) => show (Pfor.diffs l)[k] = UInt64.ofNat (l[k].toNat - Pfor.base l) from Pfor.diffs_get hk)
  have Hle := Lib.hid (fun (k : Nat) (hk : k < l.length) => Pfor.base_le (List.getElem_mem hk))
  generalize hDD : Pfor.diffs l = D at *
  have HDD := Lib.hid hDD; clear hDD
  generalize hWW : Pfor.width l = W at *
  clear hWW
  generalize Pfor.cnt W D = C at *
  generalize Bits.packed W (Pfor.lows W D) = pk at *
  generalize hs9' : Num.size (Pfor.base l) = s at *
  have Hs9' := Lib.hid hs9'; clear hs9'
  go_enter Try.func71, Try.ntmps71
  go_wp2_with fail
  refine H0.out.mono ?_
  rintro e w1 ⟨rfl, rfl⟩
  clear H0
  go_wp2
  go_loopw [18] (fun i wr => ∃ (k : Nat), k ≤ n ∧ i = .int .i64 k ∧ NOwn wr g (some ⟨g, 0, none⟩) n n (D.take k ++ List.replicate (n - k) 0) ∧ Below g w wr) (fun i _ => n - (intOf i).toNat)
  case atStart => exact ⟨0, by omega, rfl, by simpa using ho0, hbel0⟩
  case round =>
    clear ho0 hbel0 hmk
    obtain ⟨k, hk, rfl, ho, hbel⟩ := hrel
    have hbr := hb.below hbel
    by_cases hlt : k < n
    · have hk' : k < l.length := by have := Hl.out; omega
      obtain ⟨ad, rfl, hlt', hcell⟩ := hbr.get hk'
      simp only [uval] at hcell
      obtain ⟨hg1, hg2⟩ := fill_get (0 : UInt64) HDl.out hlt
      have hold := ho.cell hg1
      rw [hg2] at hold
      have hold' : wr.cell? ⟨g, k, none⟩ = some (.int .u64 0) := hold
      have hfree := ho.free k
      have hst := ho.store k (D[k]'(by rw [HDl.out]; exact hlt))
      have hle := Hle.out k hk'
      have hlt64 := Bits.u64_lt l[k]
      rw [fill_set (0 : UInt64) HDl.out hlt, Hget.out k hk' (by rw [HDl.out]; exact hlt)] at hst
      obtain ⟨z, hz, hz0, hz1⟩ : ∃ z : Int, z = (l[k].toNat : Int) ∧ 0 ≤ z ∧ z ≤ 18446744073709551615 := ⟨_, rfl, by omega, by omega⟩
      have hzx : x ≤ z := by rw [hz, Hx.out]; omega
      have hu : uval (UInt64.ofNat (l[k].toNat - Pfor.base l)) = .int .u64 (z - x) := by
        unfold uval
        rw [Bits.toNat_ofNat (by omega), hz, Hx.out, Int.natCast_sub hle]
      rw [hu] at hst
      rw [← hz] at hcell
      have Hst := Lib.hid hst
      have Hbl := Lib.hid (hbel.setCell (p := ⟨g, k, none⟩) (Nat.le_refl _) (.int .u64 (z - x)))
      clear hst hu hz hold hg1 hg2 ho hle hlt64
      go_wp2
      go_roundw
      case rel => exact ⟨k + 1, by omega, by go_num, Hst.out, Hbl.out⟩
      case measure => simp [intOf]; omega
    · obtain rfl : k = n := by omega
      rw [Nat.sub_self, List.replicate_zero, List.append_nil, List.take_of_length_le (by rw [HDl.out]; exact Nat.le_refl _)] at ho
      have hD := ho.rowAt
      have hsz : g + 1 ≤ wr.heap.size := ho.block.2
      have C1 := Lib.hid (H1.out wr hD hsz)
      clear H1 ho hb hbr
      go_wp2_with fail
      refine C1.out.mono ?_
      rintro e w1 ⟨rfl, hb1⟩
      clear C1
      have hbA := hb1.mono hsz
      have hszA : k * 0 + g + 1 ≤ w1.heap.size := by have := hbA.size; omega
      rw [Nat.mul_zero, Nat.zero_add] at hszA
      have hone := own_byte w1 _ _ hbv
      have hbone : Below (g + 1) wr (w1.alloc (.cells #[.int .u8 (k : Int)] 5)) := hbA.alloc hszA _
      have hszB : g + 1 ≤ (w1.alloc (.cells #[.int .u8 (k : Int)] 5)).heap.size := by simp; omega
      have CP := put_any _ 1 1 _ (Pfor.base l) [UInt8.ofNat k] _ rfl (Pfor.base_lt l) (by omega) hone.bytes (Nat.le_refl _)
      rw [← Hx.out, Hs9'.out] at CP
      replace CP := Lib.hid CP
      clear hone
      go_wp2_with fail
      refine CP.out.mono ?_
      rintro e w2 ⟨g2, c2, rfl, ho2, hb2⟩
      clear CP
      have hb2' := hbone.trans (hb2.mono hszB)
      have hszC : g + 1 ≤ w2.heap.size := Nat.le_trans hszB hb2.size
      have ho2' := ho2.low hszB
      have C3 := Lib.hid (H3.out w2 (hD.below hb2'))
      clear H3 ho2 hbA hb1 hbone hb2 hszB hszA
      go_wp2_with fail
      refine C3.out.mono ?_
      rintro e w3 ⟨rfl, rfl⟩
      clear C3
      have htwo := own_byte2 w2 _ _ _ _ hbw hbc
      have ho2a := ho2'.alloc (.cells #[.int .u8 (W : Int), .int .u8 (C : Int)] 5)
      have hb2a : Below (g + 1) wr (w2.alloc (.cells #[.int .u8 (W : Int), .int .u8 (C : Int)] 5)) := hb2'.alloc hszC _
      have hszD : g + 1 ≤ (w2.alloc (.cells #[.int .u8 (W : Int), .int .u8 (C : Int)] 5)).heap.size := by simp; omega
      have htb := htwo.bytes
      clear htwo ho2'
      go_wp2_with (at_builtin; refine wpList_append_bytes rfl (.tmp 38) (.tmp 45) rfl (g + 1) _ (1 + s) c2 _ rfl ho2a _ _ 2 2 [_, _] rfl rfl htb (by omega) hszD ?_; intro A3 c3 w3 ho3 hg3 hat3)
      have hb3 := hb2a.grown hg3 hszD (fun k hk => (ho2a.lt hk).1)
      have hszE : g + 1 ≤ w3.heap.size := Nat.le_trans hsz hb3.size
      have C4 := Lib.hid (H4.out w3 (hD.below hb3) hszE)
      clear H4 hg3 hat3 ho2a htb hb2a hszD hb2' hszC
      refine C4.out.mono ?_
      rintro e w4 ⟨A4, c4, rfl, ho4, hb4⟩
      clear C4
      have ho3' := ho3.below hb4
      have hb4' := hb3.trans (hb4.mono hszE)
      have hszF : g + 1 ≤ w4.heap.size := Nat.le_trans hsz hb4'.size
      have h4b := ho4.bytes
      clear ho4 ho3 hb3 hb4 hszE
      go_wp2_with (at_builtin; refine wpList_append_bytes rfl (.tmp 47) (.tmp 50) rfl (g + 1) _ (1 + s + 2) c3 _ rfl ho3' _ _ _ c4 pk rfl rfl h4b (by omega) hszF ?_; intro A5 c5 w5 ho5 hg5 hat5)
      have hb5 := hb4'.grown hg5 hszF (fun k hk => (ho3'.lt hk).1)
      clear hg5 hat5 ho3' h4b hb4' hszF
      generalize hP : ([UInt8.ofNat k] ++ Num.num (Pfor.base l) ++ [UInt8.ofNat W, UInt8.ofNat C]) ++ pk = P at *
      have HP := Lib.hid hP; clear hP
      generalize hws : wr = ws at *
      clear hws
      have hm5 : 1 + s + 2 + pk.length ≤ 300 := by omega
      generalize 1 + s + 2 + pk.length = m0 at *
      go_loopw [8, 54] (fun b i wr => ∃ (j m c : Nat) (A : Option Addr), j ≤ k ∧ i = .int .i64 j ∧ b = .slice A m c ∧ m ≤ 300 + 10 * j ∧ Own wr (g + 1) A m c (P ++ Pfor.excs W 0 (D.take j)) ∧ Below (g + 1) ws wr) (fun _ i _ => k - (intOf i).toNat)
      case atStart => exact ⟨0, m0, c5, A5, by omega, rfl, rfl, by omega, by simpa [Pfor.excs] using ho5, hb5⟩
      case round =>
        clear ho5 hb5
        obtain ⟨j, m, c, A6, hj, rfl, rfl, hm, ho, hbr⟩ := hrel
        have hDr := hD.below hbr
        have hszr : g + 1 ≤ wr.heap.size := Nat.le_trans hsz hbr.size
        by_cases hlt : j < k
        · have hj' : j < D.length := by have := HDl.out; omega
          obtain ⟨ad, had, hlt', hcell⟩ := hDr.get hj'
          cases had
          rw [show (⟨g, 0, none⟩ : Addr).add j = ⟨g, j, none⟩ from by by_cases h : j = 0 <;> simp [Addr.add, h]] at hcell
          simp only [uval] at hcell
          obtain ⟨z, hz, hz0, hz1⟩ : ∃ z : Int, z = (D[j].toNat : Int) ∧ 0 ≤ z ∧ z ≤ 18446744073709551615 := ⟨_, rfl, by omega, by have := Bits.u64_lt D[j]; omega⟩
          have E1 := isException_any D[j].toNat W z wr hz (Bits.u64_lt _) hW
          have Hs := Pfor.excs_take_succ W hj'
          have hv := Pfor.div_lt D[j] W
          have h9 := Num.size_le9 hv
          have Hshr := shr_nat (v := W) hz
          rw [← hz] at hcell
          clear hz
          rcases div_eq_zero_or D[j].toNat W with ⟨hd, h0⟩ | ⟨hd, h0⟩
          · rw [hd] at E1
            rw [Pfor.exc, if_neg h0] at Hs
            replace E1 := Lib.hid E1
            replace Hs := Lib.hid Hs
            have hwr : IntKind.u8.wrap (j : Int) = j := by
              have : IntKind.u8.wrap (j : Int) = (j : Int) % 256 := by simp [IntKind.wrap, IntKind.bits, IntKind.signed]
              rw [this]; omega
            have hone := own_byte wr (UInt8.ofNat j) (IntKind.u8.wrap (j : Int)) (by rw [hwr]; exact bval_lt (by omega))
            have hob := hone.bytes
            have hoa := ho.alloc (.cells #[.int .u8 (IntKind.u8.wrap (j : Int))] 5)
            have hba : Below (g + 1) ws (wr.alloc (.cells #[.int .u8 (IntKind.u8.wrap (j : Int))] 5)) := hbr.alloc hszr _
            have hsza : g + 1 ≤ (wr.alloc (.cells #[.int .u8 (IntKind.u8.wrap (j : Int))] 5)).heap.size := by simp; omega
            have HP1 := Lib.hid (fun (A2 : Option Addr) (c2 : Nat) (l2 : List UInt8) (B2 : Nat) (w2 : World) (hl2 : l2.length = m + 1) (hb2 : Bytes w2 B2 A2 l2) (hB2 : B2 ≤ w2.heap.size) => put_any A2 (m + 1) c2 B2 _ l2 w2 hl2 hv (by omega) hb2 hB2)
            rw [← Hshr] at HP1
            have Hv := Lib.hid hv
            clear hd h0 hone Hshr hv hDr hwr
            generalize Num.num (D[j].toNat / 2 ^ W) = nv at *
            generalize hsv : Num.size (D[j].toNat / 2 ^ W) = sv at *
            clear hsv
            go_wp2_with fail
            refine E1.out.mono ?_
            rintro e w1 ⟨rfl, rfl⟩
            clear E1
            go_wp2_with fail
            go_region_held3 (fun _ => True) (trivial) (first | (refine step_append_bytes (by rfl) (.tmp 62) (.tmp 65) (by rfl) (g + 1) A6 m c _ (by rfl) (by exact hoa) _ _ 1 1 [UInt8.ofNat j] (by rfl) rfl (by exact hob) (by omega) (by exact hsza) ?_; intro A7 c7 w7 ho7 hg7 hat7) | (go_at_call 28; refine (HP1.out A7 c7 _ _ _ (by exact ho7.len) (by exact ho7.bytes) (by exact Nat.le_refl _)).mono ?_; rintro e w8 ⟨g8, c8, rfl, ho8, hb8⟩))
            have hb7 : Below (g + 1) ws w7 := (hba.drew).grown (by exact hg7) (by exact hsza) (fun k hk => (hoa.lt hk).1)
            have hsz7 : g + 1 ≤ w7.heap.size := Nat.le_trans hsz hb7.size
            have hb8' : Below w7.heap.size w7 w8 := by exact hb8
            have hb9 := hb7.trans (hb8'.mono hsz7)
            have ho9 : Own w8 (g + 1) (some ⟨g8, 0, none⟩) (m + 1 + sv) c8 ((P ++ Pfor.excs W 0 (D.take j) ++ [UInt8.ofNat j]) ++ nv) := ho8.low hsz7
            rw [List.append_assoc, List.append_assoc, List.singleton_append, ← Hs.out] at ho9
            clear ho7 hg7 hat7 ho8 hb8 hb8' hb7 hsz7 hoa hob hba hsza HP1 ho hbr
            go_wp2
            go_roundw
            case rel => exact ⟨j + 1, m + 1 + sv, c8, _, by omega, by go_num, rfl, by omega, ho9, hb9⟩
            case measure => simp [intOf]; omega
          · rw [hd] at E1
            rw [Pfor.exc, if_pos h0, List.append_nil] at Hs
            replace E1 := Lib.hid E1
            replace Hs := Lib.hid Hs
            clear hd h0 Hshr hv h9
            go_wp2_with fail
            refine E1.out.mono ?_
            rintro e w1 ⟨rfl, rfl⟩
            clear E1
            go_wp2
            go_roundw
            case rel => exact ⟨j + 1, m, c, A6, by omega, by go_num, rfl, by omega, by rw [Hs.out]; exact ho, hbr⟩
            case measure => simp [intOf]; omega
        · obtain rfl : j = k := by omega
          rw [List.take_of_length_le (by rw [HDl.out]; exact Nat.le_refl _), ← Hfin.out] at ho
          go_wp2
          go_ret
          have hlen := ho.len
          have hp := Pfor.block_pos l
          obtain ⟨g9, rfl, _⟩ := ho.at_ (by omega)
          rw [hlen]
          exact ⟨g9, c, rfl, ho.low (by omega), hbel.trans (hbr.mono (by omega))⟩
end Go.Proofs.Ytgjopffdgdimlaa
