/- bits.putNumber and bits.takeNumber: one number into its bytes, and out of them. -/
import Derived.Test.YtcknijkjacgnkaaBitsFns
namespace Go.Proofs.Ytcknijkjacgnkaa
open Go.RowKit

/-- the byte that is stored -/
theorem or_byte {b v s : Nat} {x : Int} (hx : x = (v : Int)) (hb : b < 256) : bits .or .u8 (b : Int) (x % 256 * 2 ^ s % 256) = ((b ||| (v % 256 * 2 ^ s) % 256 : Nat) : Int) := by
  have e : x % 256 * 2 ^ s % 256 = (((v % 256 * 2 ^ s) % 256 : Nat) : Int) := by
    rw [hx, Int.natCast_emod, Int.natCast_mul, Int.natCast_emod, Int.natCast_pow]
    rfl
  rw [e, u8_or_nat b _ hb (Nat.mod_lt _ (by omega))]

set_option maxHeartbeats 1000000 in
theorem putNumber_any (g n c base p v : Nat) (l : List UInt8) (w : World) (hown : Own w base (some ⟨g, 0, none⟩) n c l) (hv : v < 18446744073709551616) (hn : n ≤ 1000000)
    (hlt : Num.val l < 2 ^ p) (hroom : Num.val l + v * 2 ^ p < 256 ^ n) (hp : p ≤ 10000000) :
    Calls Try.prog 74 #[.slice (some ⟨g, 0, none⟩) n c, .int .i64 (p : Int), .int .u64 (v : Int)] w fun e w' =>
      ∃ l', e = .returned (.tuple #[]) ∧ Own w' base (some ⟨g, 0, none⟩) n c l' ∧ Num.val l' = Num.val l + v * 2 ^ p ∧ Below base w w' := by
  have hg := hown.block.1
  obtain ⟨x, hx, h0, h1⟩ : ∃ x : Int, x = (v : Int) ∧ 0 ≤ x ∧ x ≤ 18446744073709551615 := ⟨v, rfl, by omega, by omega⟩
  rw [← hx]
  generalize hT : Num.val l + v * 2 ^ p = T at *
  have HT := Lib.hid hT
  have Hlt := Lib.hid hlt
  have Hroom := Lib.hid hroom
  have Hx := Lib.hid hx
  clear hT hlt hroom hx hv
  go_enter Try.func74, Try.ntmps74
  go_wp2
  go_loopw [1, 2] (fun a y wr => ∃ (q u : Nat) (z : Int) (t : List UInt8), q ≤ 10000000 ∧ a = .int .i64 q ∧ y = .int .u64 z ∧ z = (u : Int) ∧ 0 ≤ z ∧ z ≤ 18446744073709551615 ∧ Own wr base (some ⟨g, 0, none⟩) n c t ∧ Num.val t < 2 ^ q ∧ Num.val t + u * 2 ^ q = T ∧ Below base w wr) (fun _ y _ => (intOf y).toNat)
  case atStart => exact ⟨p, v, x, l, hp, rfl, rfl, Hx.out, h0, h1, hown, Hlt.out, HT.out, Below.refl _ _⟩
  case round =>
    obtain ⟨q, u, z, t, hq, rfl, rfl, hz, hz0, hz1, ho, hval, hsum, hbel⟩ := hrel
    have Hz := Lib.hid hz
    have Hval := Lib.hid hval
    have Hsum := Lib.hid hsum
    clear hz hval hsum
    by_cases hzero : z = 0
    · subst hzero
      go_wp2
      go_end0
      have hz := Hz.out
      have hsum := Hsum.out
      obtain rfl : u = 0 := by omega
      exact ⟨t, rfl, ho, by omega, hbel⟩
    · have hu : 0 < u := by have := Hz.out; omega
      have hq8 : q / 8 < n := by
        have h1 := Hroom.out
        rw [← Hsum.out, Bits.pow256] at h1
        have h2 : 2 ^ q ≤ u * 2 ^ q := Nat.le_mul_of_pos_left _ hu
        have h3 : (2 : Nat) ^ q < 2 ^ (8 * n) := by omega
        have := (Nat.pow_lt_pow_iff_right (by omega)).1 h3
        omega
      have hs8 : q % 8 < 8 := by omega
      have hqe : q = 8 * (q / 8) + q % 8 := by omega
      have hquo : (q : Int) / 8 = ((q / 8 : Nat) : Int) := by omega
      have hrem : (q : Int) % 8 = ((q % 8 : Nat) : Int) := by omega
      have hj : q / 8 < t.length := by rw [ho.len]; exact hq8
      have hput := Bits.val_put (v := u) hj hs8 (by rw [← hqe]; exact Hval.out)
      have hcell := ho.cell hj
      have hfree := ho.free (q / 8)
      have hb256 := Num.byte_lt t[q / 8]
      have hor := or_byte (s := q % 8) Hz.out hb256
      have hst := ho.store (q / 8) (UInt8.ofNat (t[q / 8].toNat ||| (u % 256 * 2 ^ (q % 8)) % 256))
      have hB : t[q / 8].toNat ||| (u % 256 * 2 ^ (q % 8)) % 256 < 256 := Nat.or_lt_two_pow (n := 8) hb256 (Nat.mod_lt _ (show 0 < 256 by omega))
      rw [bval_small hB] at hst
      rw [← hqe] at hput
      have Hst := Lib.hid hst
      have Hput := Lib.hid hput
      have Hbl := Lib.hid (fun u => hbel.setCell (p := ⟨g, q / 8, none⟩) hg u)
      clear hst hput ho hbel
      generalize t.set (q / 8) (UInt8.ofNat (t[q / 8].toNat ||| (u % 256 * 2 ^ (q % 8)) % 256)) = t' at Hst Hput
      generalize t[q / 8].toNat ||| (u % 256 * 2 ^ (q % 8)) % 256 = B at hor Hst hB
      generalize t[q / 8].toNat = b at hor hcell hb256
      clear hj
      have Hqe := Lib.hid hqe
      clear hqe
      generalize q / 8 = j at *
      generalize q % 8 = s at *
      go_wp2_with fail
      go_region
      go_wp2
      go_roundw
      case rel =>
        have hqe := Hqe.out
        have hput := Hput.out
        rw [Hsum.out] at hput
        have hz' : z / 2 ^ (8 - s) = ((u / 2 ^ (8 - s) : Nat) : Int) := by rw [Hz.out, Int.natCast_ediv, Int.natCast_pow]; rfl
        have hle : u / 2 ^ (8 - s) ≤ u := Nat.div_le_self _ _
        have hzu := Hz.out
        rw [hz']
        generalize u / 2 ^ (8 - s) = d at *
        exact ⟨8 * j + 8, d, d, t', by omega, congrArg (Value.int .i64) (by omega), rfl, rfl, by omega, by omega, Hst.out, hput.2, hput.1, (Hbl.out _).drew⟩
      case measure =>
        have hz' : z / 2 ^ (8 - s) = ((u / 2 ^ (8 - s) : Nat) : Int) := by rw [Hz.out, Int.natCast_ediv, Int.natCast_pow]; rfl
        have hlt : u / 2 ^ (8 - s) < u := Nat.div_lt_self hu (Nat.one_lt_two_pow (by omega))
        have hzu := Hz.out
        rw [hz']
        generalize u / 2 ^ (8 - s) = d at *
        simp only [intOf]
        omega

/-- the number that is gathered -/
theorem or_gather {M g k : Nat} {x : Int} (hg : g < 64) (hx : x = ((M % 2 ^ g : Nat) : Int)) :
    bits .or .u64 x (IntKind.u64.wrap (((M / 2 ^ g % 2 ^ k : Nat) : Int) * 2 ^ g)) = ((M % 2 ^ (g + k) % 18446744073709551616 : Nat) : Int) := by
  have e : IntKind.u64.wrap (((M / 2 ^ g % 2 ^ k : Nat) : Int) * 2 ^ g) = (((M / 2 ^ g % 2 ^ k * 2 ^ g) % 18446744073709551616 : Nat) : Int) := by
    generalize M / 2 ^ g % 2 ^ k = m
    rw [IntKind.wrap_u64, Int.natCast_emod, Int.natCast_mul, Int.natCast_pow]
    rfl
  have hlt : M % 2 ^ g < 18446744073709551616 := Nat.lt_of_lt_of_le (Nat.mod_lt _ (Bits.pow_pos g)) (Bits.pow_le64 (by omega))
  rw [e, hx, u64_or_nat _ _ hlt (Nat.mod_lt _ (by omega)), Bits.or_more hg]
/-- the mask -/
theorem mask {Y v : Nat} {x : Int} (hv : v ≤ 64) (hx : x = (Y : Int)) (hY : Y < 18446744073709551616) : bits .and .u64 x (IntKind.u64.wrap (IntKind.u64.wrap (2 ^ v) - 1)) = ((Y % 2 ^ v : Nat) : Int) := by
  have hp := Bits.pow_pos v
  have hle := Bits.pow_le64 hv
  have e : IntKind.u64.wrap (IntKind.u64.wrap (2 ^ v) - 1) = ((2 ^ v - 1 : Nat) : Int) := by
    have h2 : (2 : Int) ^ v = ((2 ^ v : Nat) : Int) := by rw [Int.natCast_pow]; rfl
    rw [h2, IntKind.wrap_u64, IntKind.wrap_u64]
    generalize 2 ^ v = P at *
    omega
  rw [e, hx, u64_and_nat Y _ hY (by omega), Bits.and_low]

set_option maxHeartbeats 1000000 in
theorem takeNumber_any (A : Option Addr) (n cap B p v : Nat) (l : List UInt8) (w : World) (hl : l.length = n) (hv : v ≤ 64) (hpv : p + v ≤ 8 * n) (hn : n ≤ 1000000) (hb : Bytes w B A l) :
    Calls Try.prog 71 #[.slice A n cap, .int .i64 (p : Int), .int .i64 (v : Int)] w fun e w' =>
      e = .returned (.int .u64 ((Num.val l / 2 ^ p % 2 ^ v : Nat) : Int)) ∧ w = w' := by
  have Hl := Lib.hid hl; clear hl
  go_enter Try.func71, Try.ntmps71
  go_wp2
  go_loopw [1, 7, 8] (fun a y i wr => ∃ (k : Nat) (z : Int), k ≤ 72 ∧ a = .int .i64 ((p + k : Nat) : Int) ∧ i = .int .i64 k ∧ y = .int .u64 z ∧ z = ((Num.val l / 2 ^ p % 2 ^ k % 18446744073709551616 : Nat) : Int) ∧ w = wr) (fun _ _ i _ => 100 - (intOf i).toNat)
  case atStart => exact ⟨0, 0, by omega, rfl, rfl, rfl, by simp [Nat.mod_one], rfl⟩
  case round =>
    obtain ⟨k, z, hk, rfl, rfl, rfl, hz, rfl⟩ := hrel
    have Hz := Lib.hid hz
    clear hz
    by_cases hlt : k < v
    · have hq8 : (p + k) / 8 < l.length := by rw [Hl.out]; omega
      obtain ⟨ad, rfl, _, hcell⟩ := hb.get hq8
      have hb256 := Num.byte_lt l[(p + k) / 8]
      have hbits := Bits.val_bits (b := l) (p := p + k) hq8
      generalize l[(p + k) / 8].toNat = b at hcell hb256 hbits
      rw [Nat.pow_add, ← Nat.div_div_eq_div_mul] at hbits
      have hz := Hz.out
      rw [Nat.mod_eq_of_lt (a := Num.val l / 2 ^ p % 2 ^ k) (Nat.lt_of_lt_of_le (Nat.mod_lt _ (Bits.pow_pos k)) (Bits.pow_le64 (by omega)))] at hz
      have hor := or_gather (k := 8 - (p + k) % 8) (by omega) hz
      rw [← hbits] at hor
      have hquo : ((p : Int) + (k : Int)) / 8 = (((p + k) / 8 : Nat) : Int) := by omega
      have hrem : ((p : Int) + (k : Int)) % 8 = (((p + k) % 8 : Nat) : Int) := by omega
      have hs8 : (p + k) % 8 < 8 := by omega
      have hj : (p + k) / 8 < n := by omega
      have Hor := Lib.hid hor
      clear hz hbits hor hq8
      generalize (p + k) / 8 = j at *
      generalize (p + k) % 8 = s at *
      go_wp2
      go_roundw
      case rel =>
        have e : IntKind.u64.wrap ((b : Int) / 2 ^ s) = ((b / 2 ^ s : Nat) : Int) := by
          have e1 : (b : Int) / 2 ^ s = ((b / 2 ^ s : Nat) : Int) := by rw [Int.natCast_ediv, Int.natCast_pow]; rfl
          have hle : b / 2 ^ s ≤ b := Nat.div_le_self _ _
          rw [e1]
          generalize b / 2 ^ s = d at *
          exact IntWalk.u64_in _ (by omega)
        rw [e]
        exact ⟨k + (8 - s), _, by omega, congrArg (Value.int .i64) (by omega), congrArg (Value.int .i64) (by omega), rfl, Hor.out, trivial⟩
      case measure =>
        simp only [intOf]
        omega
    · have hmask := mask hv Hz.out (Nat.mod_lt _ (by omega))
      rw [Bits.out_all hv (by omega)] at hmask
      have Hmask := Lib.hid hmask
      clear hmask
      go_wp2
      go_ret
      exact ⟨congrArg (fun z => Ending.returned (.int .u64 z)) Hmask.out, rfl⟩
end Go.Proofs.Ytcknijkjacgnkaa
