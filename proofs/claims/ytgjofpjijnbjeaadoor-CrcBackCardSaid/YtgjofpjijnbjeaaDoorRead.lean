/- crc.readWord and dragnetref01.length: the number that four bytes make; crc.frameSize. -/
import Derived.Test.YtgjofpjijnbjeaaDoorSame
import Derived.Deep.QuietTactic
import Derived.BigQuiet
namespace Go.Proofs.YtgjofpjijnbjeaaDoor
open Go.RowKit

/-- the number of the first four bytes, the lowest first -/
def word (l : List UInt8) : Nat := (l.getD 0 0).toNat + (l.getD 1 0).toNat * 256 + (l.getD 2 0).toNat * 65536 + (l.getD 3 0).toNat * 16777216
theorem word_lt (l : List UInt8) : word l < 4294967296 := by
  have h0 := Plain.byte_lt (l.getD 0 0)
  have h1 := Plain.byte_lt (l.getD 1 0)
  have h2 := Plain.byte_lt (l.getD 2 0)
  have h3 := Plain.byte_lt (l.getD 3 0)
  unfold word
  omega
theorem word_take (l : List UInt8) (j : Nat) (h : 4 ≤ j) : word (l.take j) = word l := by
  have g : ∀ i, i < 4 → (l.take j).getD i 0 = l.getD i 0 := fun i hi => by
    rw [List.getD_eq_getElem?_getD, List.getD_eq_getElem?_getD, List.getElem?_take, if_pos (by omega)]
  unfold word
  rw [g 0 (by omega), g 1 (by omega), g 2 (by omega), g 3 (by omega)]
theorem or_add (i a b : Nat) (hb : b < 2 ^ i) : b ||| a * 2 ^ i = b + a * 2 ^ i := by
  rw [Nat.or_comm, Nat.mul_comm, ← Nat.two_pow_add_eq_or_of_lt hb, Nat.add_comm]
theorem u32_or_add (i a b : Nat) (hb : b < 2 ^ i) (h : b + a * 2 ^ i < 4294967296) : bits .or .u32 (b : Int) ((a * 2 ^ i : Nat) : Int) = ((b + a * 2 ^ i : Nat) : Int) := by
  rw [u32_or_nat _ _ (by omega) (by omega), or_add i a b hb]
theorem ors (b0 b1 b2 b3 : Nat) (h0 : b0 < 256) (h1 : b1 < 256) (h2 : b2 < 256) (h3 : b3 < 256) :
    bits .or .u32 (bits .or .u32 (bits .or .u32 (b0 : Int) ((b1 : Int) * 256)) ((b2 : Int) * 65536)) ((b3 : Int) * 16777216) = ((b0 + b1 * 256 + b2 * 65536 + b3 * 16777216 : Nat) : Int) := by
  have e1 := u32_or_add 8 b1 b0 h0 (by omega)
  have e2 := u32_or_add 16 b2 (b0 + b1 * 2 ^ 8) (by omega) (by omega)
  have e3 := u32_or_add 24 b3 (b0 + b1 * 2 ^ 8 + b2 * 2 ^ 16) (by omega) (by omega)
  rw [show (b1 : Int) * 256 = ((b1 * 2 ^ 8 : Nat) : Int) from by omega, e1, show (b2 : Int) * 65536 = ((b2 * 2 ^ 16 : Nat) : Int) from by omega, e2, show (b3 : Int) * 16777216 = ((b3 * 2 ^ 24 : Nat) : Int) from by omega, e3]

/-- the cells of the first four bytes, as the walks spell them -/
theorem Bytes.four {w : World} {B : Nat} {A : Option Addr} {l : List UInt8} (h : Bytes w B A l) (hl : 4 ≤ l.length) :
    ∃ ad, A = some ad ∧ w.cell? ad = some (.int .u8 ((l.getD 0 0).toNat : Int)) ∧ w.cell? ⟨ad.block, ad.off + 1, none⟩ = some (.int .u8 ((l.getD 1 0).toNat : Int)) ∧
      w.cell? ⟨ad.block, ad.off + 2, none⟩ = some (.int .u8 ((l.getD 2 0).toNat : Int)) ∧ w.cell? ⟨ad.block, ad.off + 3, none⟩ = some (.int .u8 ((l.getD 3 0).toNat : Int)) := by
  obtain ⟨ad, rfl, _, hc⟩ := h (fun e => by subst e; simp at hl)
  have g : ∀ i, (hi : i < l.length) → l[i] = l.getD i 0 := fun i hi => by simp [List.getD_eq_getElem?_getD, List.getElem?_eq_getElem hi]
  have c0 := hc 0 (by omega)
  have c1 := hc 1 (by omega)
  have c2 := hc 2 (by omega)
  have c3 := hc 3 (by omega)
  rw [g] at c0 c1 c2 c3
  exact ⟨ad, rfl, by simpa [Addr.add, bval] using c0, by simpa [Addr.add, bval] using c1, by simpa [Addr.add, bval] using c2, by simpa [Addr.add, bval] using c3⟩

set_option maxHeartbeats 400000 in
theorem readWord_any (A : Option Addr) (n cap B : Nat) (l : List UInt8) (w : World) (hl : l.length = n) (hn : 4 ≤ n) (hm : n ≤ 140737488355328) (hb : Bytes w B A l) :
    Calls Tryd.prog 31 #[.slice A n cap] w fun e w' => e = .returned (.int .u32 ((word l : Nat) : Int)) ∧ ∃ q, w' = w.drewN q := by
  obtain ⟨ad, rfl, hc0, hc1, hc2, hc3⟩ := hb.four (by omega)
  have h0 := Plain.byte_lt (l.getD 0 0)
  have h1 := Plain.byte_lt (l.getD 1 0)
  have h2 := Plain.byte_lt (l.getD 2 0)
  have h3 := Plain.byte_lt (l.getD 3 0)
  have hw0 : word l = (l.getD 0 0).toNat + (l.getD 1 0).toNat * 256 + (l.getD 2 0).toNat * 65536 + (l.getD 3 0).toNat * 16777216 := rfl
  have hw := Lib.hid hw0; clear hw0
  clear hb hl
  generalize (l.getD 0 0).toNat = b0 at h0 hc0 hw
  generalize (l.getD 1 0).toNat = b1 at h1 hc1 hw
  generalize (l.getD 2 0).toNat = b2 at h2 hc2 hw
  generalize (l.getD 3 0).toNat = b3 at h3 hc3 hw
  have i0 : (0 : Int) < (n : Int) := by omega
  have i1 : (1 : Int) < (n : Int) := by omega
  have i2 : (2 : Int) < (n : Int) := by omega
  have i3 : (3 : Int) < (n : Int) := by omega
  go_enter Tryd.func31, Tryd.ntmps31
  go_wp2_with fail
  go_quiet (fail)
  go_wp2
  go_ret
  refine ⟨?_, _, rfl⟩
  rw [hw.out]
  exact congrArg (fun x => Ending.returned (.int .u32 x)) (ors b0 b1 b2 b3 h0 h1 h2 h3)

set_option maxHeartbeats 400000 in
theorem length_any (A : Option Addr) (n cap B : Nat) (l : List UInt8) (w : World) (hl : l.length = n) (hn : 4 ≤ n) (hm : n ≤ 140737488355328) (hb : Bytes w B A l) :
    Calls Tryd.prog 29 #[.slice A n cap] w fun e w' => e = .returned (.int .i64 ((word l : Nat) : Int)) ∧ ∃ q, w' = w.drewN q := by
  obtain ⟨ad, rfl, hc0, hc1, hc2, hc3⟩ := hb.four (by omega)
  have h0 := Plain.byte_lt (l.getD 0 0)
  have h1 := Plain.byte_lt (l.getD 1 0)
  have h2 := Plain.byte_lt (l.getD 2 0)
  have h3 := Plain.byte_lt (l.getD 3 0)
  have hw0 : word l = (l.getD 0 0).toNat + (l.getD 1 0).toNat * 256 + (l.getD 2 0).toNat * 65536 + (l.getD 3 0).toNat * 16777216 := rfl
  have hw := Lib.hid hw0; clear hw0
  clear hb hl
  generalize (l.getD 0 0).toNat = b0 at h0 hc0 hw
  generalize (l.getD 1 0).toNat = b1 at h1 hc1 hw
  generalize (l.getD 2 0).toNat = b2 at h2 hc2 hw
  generalize (l.getD 3 0).toNat = b3 at h3 hc3 hw
  have i0 : (0 : Int) < (n : Int) := by omega
  have i1 : (1 : Int) < (n : Int) := by omega
  have i2 : (2 : Int) < (n : Int) := by omega
  have i3 : (3 : Int) < (n : Int) := by omega
  go_enter Tryd.func29, Tryd.ntmps29
  go_wp2_with fail
  go_quiet (fail)
  go_wp2
  go_ret
  refine ⟨?_, _, rfl⟩
  rw [hw.out]
  exact congrArg (fun x => Ending.returned (.int .i64 x)) (by omega)
end Go.Proofs.YtgjofpjijnbjeaaDoor
