/- bits.Unpack. -/
import Derived.Test.YtcknijkjacgnkaaBitsPack
namespace Go.Proofs.Ytcknijkjacgnkaa
open Go.RowKit

/-- what Unpack leaves: numbers of its own, and the error -/
def UnpackPost (w : World) (r : List UInt64 × Nat) (e : Ending) (w' : World) : Prop :=
  ∃ A c, e = .returned (.tuple #[.slice A r.1.length c, .int .i64 (r.2 : Int)]) ∧ NOwn w' w.heap.size A r.1.length c r.1 ∧ Below w.heap.size w w'

theorem nown_none (w : World) (base : Nat) : NOwn w base none 0 0 [] := ROwn.nil _ _ w base
theorem Bits.parts_zeros_set (n k w N : Nat) (hk : k < n) : (Bits.parts k w N ++ List.replicate (n - k) 0).set k (UInt64.ofNat (N / 2 ^ (k * w) % 2 ^ w)) = Bits.parts (k + 1) w N ++ List.replicate (n - (k + 1)) 0 := by
  obtain ⟨d, rfl⟩ : ∃ d, n = k + 1 + d := ⟨n - k - 1, by omega⟩
  rw [show k + 1 + d - k = d + 1 from by omega, List.replicate_succ, show k + 1 + d - (k + 1) = d from by omega, Bits.parts_succ]
  have e : (Bits.parts k w N).length = k := Bits.parts_length _ _ _
  generalize Bits.parts k w N = P at *
  subst e
  simp
theorem uval_small {x : Nat} (h : x < 18446744073709551616) : uval (UInt64.ofNat x) = .int .u64 (x : Int) := by
  unfold uval
  rw [Bits.toNat_ofNat h]

set_option maxHeartbeats 1000000 in
theorem unpack_any (A : Option Addr) (m cap B : Nat) (y z : Int) (b : List UInt8) (w : World) (hl : b.length = m) (hb : Bytes w B A b) (hB : B ≤ w.heap.size) (hm : m ≤ 140737488355328) :
    Calls Try.prog 54 #[.slice A m cap, .int .i64 y, .int .i64 z] w (UnpackPost w (Bits.unpack b y z)) := by
  have H1 := isWidth_any z w
  by_cases hw : z < 0 ∨ 64 < z ∨ y < 0 ∨ 4096 < y
  · have e : Bits.unpack b y z = ([], 1) := by unfold Bits.unpack; rw [if_pos hw]
    rw [e]
    clear e hl hb
    by_cases hz : 0 ≤ z ∧ z ≤ 64
    · rw [decide_eq_true hz] at H1
      replace H1 := Lib.hid H1
      by_cases hy : y < 0
      · go_enter Try.func54, Try.ntmps54
        go_wp2_with fail
        refine H1.out.mono ?_
        rintro e w1 ⟨rfl, rfl⟩
        go_wp2
        go_ret2
        exact ⟨none, 0, rfl, nown_none _ _, Below.refl _ _⟩
      · have hy2 : 4096 < y := by omega
        go_enter Try.func54, Try.ntmps54
        go_wp2_with fail
        refine H1.out.mono ?_
        rintro e w1 ⟨rfl, rfl⟩
        go_wp2
        go_ret2
        exact ⟨none, 0, rfl, nown_none _ _, Below.refl _ _⟩
    · rw [decide_eq_false hz] at H1
      replace H1 := Lib.hid H1
      clear hw hz
      go_enter Try.func54, Try.ntmps54
      go_wp2_with fail
      refine H1.out.mono ?_
      rintro e w1 ⟨rfl, rfl⟩
      go_wp2
      go_ret2
      exact ⟨none, 0, rfl, nown_none _ _, Below.refl _ _⟩
  · rw [decide_eq_true (by omega)] at H1
    replace H1 := Lib.hid H1
    obtain ⟨v, rfl⟩ : ∃ v : Nat, z = v := ⟨z.toNat, by omega⟩
    obtain ⟨n, rfl⟩ : ∃ n : Nat, y = n := ⟨y.toNat, by omega⟩
    have hv : v ≤ 64 := by omega
    have hn : n ≤ 4096 := by omega
    obtain ⟨hS, hnv⟩ := Bits.size_le (show n ≤ 65536 by omega) hv
    have H2 := packedSize_any n v w (by omega)
    have hp0 : 0 ≤ (n : Int) * (v : Int) := Int.mul_nonneg (by omega) (by omega)
    have hp1 : (n : Int) * (v : Int) ≤ 4194304 := by rw [← Int.natCast_mul]; omega
    by_cases h2 : b.length < Bits.size n v
    · have e : Bits.unpack b n v = ([], 3) := by unfold Bits.unpack; rw [if_neg hw, Int.toNat_natCast, Int.toNat_natCast, if_pos h2]
      rw [e]
      rw [hl] at h2
      clear e hl hb hw hp0 hp1
      generalize Bits.size n v = S at *
      replace H2 := Lib.hid H2
      go_enter Try.func54, Try.ntmps54
      go_wp2_with fail
      refine H1.out.mono ?_
      rintro e w1 ⟨rfl, rfl⟩
      go_wp2_with fail
      refine H2.out.mono ?_
      rintro e w1 ⟨rfl, rfl⟩
      go_wp2
      go_ret2
      exact ⟨none, 0, rfl, nown_none _ _, Below.refl _ _⟩
    · by_cases h3 : Bits.size n v < b.length
      · have e : Bits.unpack b n v = ([], 2) := by unfold Bits.unpack; rw [if_neg hw, Int.toNat_natCast, Int.toNat_natCast, if_neg h2, if_pos (.inl h3)]
        rw [e]
        rw [hl] at h2 h3
        clear e hl hb hw hp0 hp1
        generalize Bits.size n v = S at *
        replace H2 := Lib.hid H2
        go_enter Try.func54, Try.ntmps54
        go_wp2_with fail
        refine H1.out.mono ?_
        rintro e w1 ⟨rfl, rfl⟩
        go_wp2_with fail
        refine H2.out.mono ?_
        rintro e w1 ⟨rfl, rfl⟩
        go_wp2
        go_ret2
        exact ⟨none, 0, rfl, nown_none _ _, Below.refl _ _⟩
      · obtain rfl : m = Bits.size n v := by omega
        have H3 := hasUnusedBit_any A (Bits.size n v) cap B (n * v) b w hl rfl (by omega) hb
        have hd : 8 * Bits.size n v < n * v + 8 ∧ n * v ≤ 8 * Bits.size n v := by unfold Bits.size; omega
        rw [Int.natCast_mul] at H3
        by_cases h4 : 2 ^ (n * v) ≤ Num.val b
        · have e : Bits.unpack b n v = ([], 2) := by unfold Bits.unpack; rw [if_neg hw, Int.toNat_natCast, Int.toNat_natCast, if_neg h2, if_pos (.inr h4)]
          rw [e]
          rw [decide_eq_true h4] at H3
          replace H2 := Lib.hid H2
          replace H3 := Lib.hid H3
          clear e hl hb hw h2 h3 h4 hd
          generalize Bits.size n v = S at *
          go_enter Try.func54, Try.ntmps54
          go_wp2_with fail
          refine H1.out.mono ?_
          rintro e w1 ⟨rfl, rfl⟩
          go_wp2_with fail
          refine H2.out.mono ?_
          rintro e w1 ⟨rfl, rfl⟩
          go_wp2_with fail
          refine H3.out.mono ?_
          rintro e w1 ⟨rfl, rfl⟩
          go_wp2
          go_ret2
          exact ⟨none, 0, rfl, nown_none _ _, Below.refl _ _⟩
        · have e : Bits.unpack b n v = (Bits.parts n v (Num.val b), 0) := by unfold Bits.unpack; rw [if_neg hw, Int.toNat_natCast, Int.toNat_natCast, if_neg h2, if_neg (by omega)]
          rw [e]
          rw [decide_eq_false h4] at H3
          replace H2 := Lib.hid H2
          replace H3 := Lib.hid H3
          have Hl := Lib.hid hl
          clear e hl hw h2 h3 h4
          generalize Bits.size n v = S at *
          have hmk := run_make_nums n (by omega)
          have ho1 := own_nums w n (by simp only [maxLen]; omega)
          have hbel : Below w.heap.size w (w.alloc (.cells (madeCells #[.int .u64 0] n) 50)) := (Below.refl _ _).alloc (Nat.le_refl _) _
          go_enter Try.func54, Try.ntmps54
          go_wp2_with fail
          refine H1.out.mono ?_
          rintro e w1 ⟨rfl, rfl⟩
          go_wp2_with fail
          refine H2.out.mono ?_
          rintro e w1 ⟨rfl, rfl⟩
          go_wp2_with fail
          refine H3.out.mono ?_
          rintro e w1 ⟨rfl, rfl⟩
          clear H1 H2 H3
          go_wp2
          go_loopw [44] (fun i wr => ∃ (k : Nat), k ≤ n ∧ i = .int .i64 k ∧ NOwn wr w.heap.size (some ⟨w.heap.size, 0, none⟩) n n (Bits.parts k v (Num.val b) ++ List.replicate (n - k) 0) ∧ Below w.heap.size w wr) (fun i _ => n - (intOf i).toNat)
          case atStart => exact ⟨0, by omega, rfl, by simpa [Bits.parts] using ho1, hbel⟩
          case round =>
            clear ho1 hbel
            obtain ⟨k, hk, rfl, ho, hbel⟩ := hrel
            by_cases hlt : k < n
            · have hb1 := (hb.wide hB).below hbel
              have hkv : k * v + v ≤ n * v := by rw [← Nat.succ_mul]; exact Nat.mul_le_mul_right v hlt
              have HT := takeNumber_any A S cap w.heap.size (k * v) v b wr Hl.out hv (by omega) (by omega) hb1
              rw [Int.natCast_mul] at HT
              have hxlt : Num.val b / 2 ^ (k * v) % 2 ^ v < 18446744073709551616 := Nat.lt_of_lt_of_le (Nat.mod_lt _ (Bits.pow_pos v)) (Bits.pow_le64 hv)
              have hst := ho.store k (UInt64.ofNat (Num.val b / 2 ^ (k * v) % 2 ^ v))
              rw [uval_small hxlt, Bits.parts_zeros_set n k v _ hlt] at hst
              have hfree := ho.free k
              have hcell := ho.cell (k := k) (by rw [ho.len]; exact hlt)
              generalize (Bits.parts k v (Num.val b) ++ List.replicate (n - k) 0)[k]'(by rw [ho.len]; exact hlt) = old at hcell
              simp only [uval] at hcell
              have Hst := Lib.hid hst
              have Hbl := Lib.hid (hbel.setCell (p := ⟨w.heap.size, k, none⟩) (Nat.le_refl _) (.int .u64 ((Num.val b / 2 ^ (k * v) % 2 ^ v : Nat) : Int)))
              replace HT := Lib.hid HT
              have hkv0 : 0 ≤ (k : Int) * (v : Int) := Int.mul_nonneg (by omega) (by omega)
              have hkv1 : (k : Int) * (v : Int) ≤ 4194304 := by rw [← Int.natCast_mul]; omega
              generalize Num.val b / 2 ^ (k * v) % 2 ^ v = x at *
              clear ho hst hbel hkv hxlt hd
              go_wp2_with fail
              refine HT.out.mono ?_
              rintro e w1 ⟨rfl, rfl⟩
              clear HT
              go_wp2
              go_roundw
              case rel => exact ⟨k + 1, by omega, by go_num, Hst.out, Hbl.out⟩
              case measure => simp [intOf]; omega
            · obtain rfl : k = n := by omega
              go_wp2
              go_ret2
              rw [Nat.sub_self, List.replicate_zero, List.append_nil] at ho
              refine ⟨some ⟨w.heap.size, 0, none⟩, k, ?_, ?_, hbel⟩
              · rw [Bits.parts_length]; rfl
              · rw [Bits.parts_length]; exact ho
end Go.Proofs.Ytcknijkjacgnkaa
