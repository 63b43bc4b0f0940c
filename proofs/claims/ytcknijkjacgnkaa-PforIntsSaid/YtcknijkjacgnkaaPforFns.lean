/- pfor's small functions: isBlockLength, packedSize, isException, numberSize; slices.Min. -/
import Derived.Test.YtcknijkjacgnkaaPfor
import Derived.Test.YtcknijkjacgnkaaBitsFns
import Derived.Laws.Small
namespace Go.Proofs.Ytcknijkjacgnkaa
open Go.RowKit

theorem isBlockLength_any (z : Int) (w : World) : Calls Try.prog 28 #[.int .i64 z] w fun e w' => e = .returned (.bool (decide (1 ≤ z ∧ z ≤ 32))) ∧ w = w' := by
  by_cases h1 : 1 ≤ z
  · by_cases h2 : z ≤ 32
    · rw [decide_eq_true ⟨h1, h2⟩]
      go_enter Try.func28, Try.ntmps28
      go_wp2
      go_ret
      exact ⟨rfl, rfl⟩
    · rw [decide_eq_false (fun h => h2 h.2)]
      go_enter Try.func28, Try.ntmps28
      go_wp2
      go_ret
      exact ⟨rfl, rfl⟩
  · rw [decide_eq_false (fun h => h1 h.1)]
    go_enter Try.func28, Try.ntmps28
    go_wp2
    go_ret
    exact ⟨rfl, rfl⟩

theorem ppackedSize_any (n v : Nat) (w : World) (hp : n * v ≤ 1000000000000000) :
    Calls Try.prog 53 #[.int .i64 (n : Int), .int .i64 (v : Int)] w fun e w' => e = .returned (.int .i64 (Bits.size n v : Int)) ∧ w = w' := by
  have hs : (Bits.size n v : Int) = ((n : Int) * (v : Int) + 7) / 8 := by unfold Bits.size; rw [Int.natCast_ediv, Int.natCast_add, Int.natCast_mul]; rfl
  have hp0 : 0 ≤ (n : Int) * (v : Int) := Int.mul_nonneg (by omega) (by omega)
  have hp1 : (n : Int) * (v : Int) ≤ 1000000000000000 := by rw [← Int.natCast_mul]; omega
  clear hp
  go_enter Try.func53, Try.ntmps53
  go_wp2
  go_ret
  exact ⟨by rw [hs]; rfl, rfl⟩

/-- a number shifted right, as a letter -/
theorem shr_nat {x v : Nat} {z : Int} (hz : z = (x : Int)) : z / 2 ^ v = ((x / 2 ^ v : Nat) : Int) := by rw [hz, Int.natCast_ediv, Int.natCast_pow]; rfl

theorem isException_any (x v : Nat) (z : Int) (w : World) (hz : z = (x : Int)) (hx : x < 18446744073709551616) (hv : v ≤ 64) :
    Calls Try.prog 52 #[.int .u64 z, .int .i64 (v : Int)] w fun e w' => e = .returned (.bool (decide (x / 2 ^ v ≠ 0))) ∧ w = w' := by
  obtain ⟨h0, h1⟩ : 0 ≤ z ∧ z ≤ 18446744073709551615 := ⟨by omega, by omega⟩
  have hd : decide (x / 2 ^ v ≠ 0) = (z / 2 ^ v != 0) := by
    rw [shr_nat hz, Bool.eq_iff_iff, decide_eq_true_iff, bne_iff_ne]
    omega
  rw [hd]
  clear hx hz hd
  go_enter Try.func52, Try.ntmps52
  go_wp2
  go_ret
  exact ⟨rfl, rfl⟩

theorem Bits.width_one {v : Nat} (hv : v < 18446744073709551616) : Bits.size 1 (Bits.width [UInt64.ofNat v]) = Num.width v := by
  unfold Bits.width Bits.orAll Bits.size Num.width
  rw [List.foldl_cons, List.foldl_nil, Bits.toNat_ofNat hv, Nat.zero_or, Nat.one_mul]

theorem nown_lit1 (w : World) (x : UInt64) (z : Int) (h : uval x = .int .u64 z) : NOwn (w.alloc (.cells #[.int .u64 z] 50)) w.heap.size (some ⟨w.heap.size, 0, none⟩) 1 1 [x] := by
  have h1 := ROwn.lit (f := uval) (e := 50) w w.heap.size [x] (Nat.le_refl _) (by simp [maxLen])
  rw [show ([x].map uval).toArray = #[uval x] from rfl, h] at h1
  exact h1

theorem numberSize_any (v : Nat) (z : Int) (w : World) (hz : z = (v : Int)) (hv : v < 18446744073709551616) :
    Calls Try.prog 73 #[.int .u64 z] w fun e w' => e = .returned (.int .i64 (Num.size v : Int)) ∧ Below w.heap.size w w' := by
  obtain ⟨h0, h1⟩ : 0 ≤ z ∧ z ≤ 18446744073709551615 := ⟨by omega, by omega⟩
  by_cases hs : v ≤ 247
  · have hsz : Num.size v = 1 := by unfold Num.size; rw [if_pos hs]
    rw [hsz]
    have hs' : z ≤ 247 := by omega
    clear hz hv hs h1 hsz
    go_enter Try.func73, Try.ntmps73
    go_wp2
    go_ret
    exact ⟨rfl, Below.refl _ _⟩
  · have hsz : Num.size v = 1 + Num.width v := by unfold Num.size; rw [if_neg hs]
    have h8 := Num.width_le8 hv
    have hb : uval (UInt64.ofNat v) = .int .u64 z := by unfold uval; rw [Bits.toNat_ofNat hv, hz]
    have hown := nown_lit1 w (UInt64.ofNat v) z hb
    have hbel : Below w.heap.size w (w.alloc (.cells #[.int .u64 z] 50)) := (Below.refl _ _).alloc (Nat.le_refl _) _
    have H1 := Lib.hid (width_any _ 1 1 _ [UInt64.ofNat v] _ rfl (by omega) hown.row)
    have hw64 := Bits.width_le64 [UInt64.ofNat v]
    have H2 := ppackedSize_any 1 (Bits.width [UInt64.ofNat v]) (w.alloc (.cells #[.int .u64 z] 50)) (by omega)
    rw [Bits.width_one hv] at H2
    replace H2 := Lib.hid H2
    rw [hsz]
    have hs' : ¬ z ≤ 247 := by omega
    clear hz hv hs hsz hb hown
    generalize Bits.width [UInt64.ofNat v] = W at *
    generalize Num.width v = K at *
    go_enter Try.func73, Try.ntmps73
    go_wp2_with fail
    refine H1.out.mono ?_
    rintro e w1 ⟨rfl, rfl⟩
    go_wp2_with fail
    refine H2.out.mono ?_
    rintro e w1 ⟨rfl, rfl⟩
    clear H1 H2
    go_wp2
    go_ret
    exact ⟨by go_num, hbel⟩

set_option maxHeartbeats 400000 in
theorem min_any (A : Option Addr) (n cap B : Nat) (l : List UInt64) (w : World) (hl : l.length = n) (h1 : 1 ≤ n) (hn : n ≤ 1000000) (hb : Nums w B A l) :
    Calls Try.prog 48 #[.slice A n cap] w fun e w' => e = .returned (.int .u64 (Pfor.base l : Int)) ∧ w = w' := by
  rcases l with _ | ⟨x, r⟩
  · simp at hl; omega
  have hl' : r.length + 1 = n := by simpa using hl
  obtain ⟨ad, rfl, hlt', hcell⟩ := hb.get (k := 0) (by simp)
  simp only [uval, List.getElem_cons_zero, Addr.add, if_true] at hcell
  obtain ⟨z0, hz0⟩ : ∃ z0 : Int, z0 = (x.toNat : Int) := ⟨_, rfl⟩
  rw [← hz0] at hcell
  have Hz0 := Lib.hid hz0; clear hz0
  have Hl := Lib.hid hl'; clear hl hl'
  go_enter Try.func48, Try.ntmps48
  go_wp2
  go_loopw [3, 4] (fun s i wr => ∃ (j : Nat) (y : Int), 1 ≤ j ∧ j ≤ n ∧ i = .int .i64 j ∧ s = .int .u64 y ∧ y = (Pfor.leastOf x.toNat (r.take (j - 1)) : Int) ∧ w = wr) (fun _ i _ => n - (intOf i).toNat)
  case atStart => exact ⟨1, z0, by omega, by omega, rfl, rfl, Hz0.out, rfl⟩
  case round =>
    obtain ⟨j, y, hj, hk, rfl, rfl, hy, rfl⟩ := hrel
    have Hy := Lib.hid hy; clear hy
    by_cases hlt : j < n
    · have hk' : j - 1 < r.length := by have := Hl.out; omega
      obtain ⟨ad2, h2, hlt2, hcell2⟩ := hb.get (k := j) (by simp; have := Hl.out; omega)
      cases h2
      simp only [uval] at hcell2
      have e : (x :: r)[j]'(by simp; have := Hl.out; omega) = r[j - 1] := by
        obtain ⟨i, rfl⟩ : ∃ i, j = i + 1 := ⟨j - 1, by omega⟩
        rfl
      rw [e] at hcell2
      obtain ⟨z, hz⟩ : ∃ z : Int, z = (r[j - 1].toNat : Int) := ⟨_, rfl⟩
      rw [← hz] at hcell2
      have Hmin := Lib.hid (Pfor.leastOf_take_succ x.toNat hk')
      have Hz := Lib.hid hz; clear hz e
      go_wp2
      go_roundw
      case rel =>
        refine ⟨j + 1, _, by omega, by omega, by go_num, rfl, ?_, trivial⟩
        have h1 := Hmin.out
        rw [show j - 1 + 1 = j + 1 - 1 from by omega] at h1
        rw [h1, Hy.out, Hz.out]
        split <;> omega
      case measure => simp [intOf]; omega
    · obtain rfl : n = j := by omega
      go_wp2
      go_ret
      refine ⟨?_, rfl⟩
      rw [Hy.out, List.take_of_length_le (by have := Hl.out; omega)]
      rfl
end Go.Proofs.Ytcknijkjacgnkaa
