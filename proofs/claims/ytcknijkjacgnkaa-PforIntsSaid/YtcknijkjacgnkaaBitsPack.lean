/- bits.Pack. -/
import Derived.Test.YtcknijkjacgnkaaBitsNum
namespace Go.Proofs.Ytcknijkjacgnkaa
open Go.RowKit

/-- what Pack leaves: bytes of its own, and the error -/
def PackPost (w : World) (r : List UInt8 × Nat) (e : Ending) (w' : World) : Prop :=
  ∃ A c, e = .returned (.tuple #[.slice A r.1.length c, .int .i64 (r.2 : Int)]) ∧ Own w' w.heap.size A r.1.length c r.1 ∧ Below w.heap.size w w'

theorem Bits.cat_take_succ {v : Nat} {l : List UInt64} {k : Nat} (hk : k < l.length) : Bits.cat v (l.take (k + 1)) = Bits.cat v (l.take k) + l[k].toNat * 2 ^ (k * v) := by
  rw [List.take_succ_eq_append_getElem hk, Bits.cat_snoc, List.length_take, Nat.min_eq_left (by omega), Nat.mul_comm (2 ^ _)]
theorem Bits.cat_take_lt {v : Nat} {l : List UInt64} {k : Nat} (h : Bits.Fit v l) (hk : k ≤ l.length) : Bits.cat v (l.take k) < 2 ^ (k * v) := by
  have := Bits.cat_lt (h.take k)
  rwa [List.length_take, Nat.min_eq_left hk] at this
theorem Bits.size_le {n v : Nat} (hn : n ≤ 65536) (hv : v ≤ 64) : Bits.size n v ≤ 524288 ∧ n * v ≤ 4194304 := by
  have : n * v ≤ 65536 * 64 := Nat.mul_le_mul hn hv
  unfold Bits.size
  omega
theorem own_none (w : World) (base : Nat) : Own w base none 0 0 [] := World.ownsRow_nil w base _ _

set_option maxHeartbeats 1000000 in
theorem pack_any (A : Option Addr) (n cap B : Nat) (z : Int) (l : List UInt64) (w : World) (hl : l.length = n) (hn : n ≤ 65536) (hb : Nums w B A l) (hB : B ≤ w.heap.size) :
    Calls Try.prog 67 #[.slice A n cap, .int .i64 z] w (PackPost w (Bits.pack l z)) := by
  have H1 := isWidth_any z w
  by_cases hw : z < 0 ∨ 64 < z
  · rw [decide_eq_false (by omega)] at H1
    have e : Bits.pack l z = ([], 1) := by unfold Bits.pack; rw [if_pos hw]
    rw [e]
    replace H1 := Lib.hid H1
    clear hb hl hw e
    go_enter Try.func67, Try.ntmps67
    go_wp2_with fail
    refine H1.out.mono ?_
    rintro e w1 ⟨rfl, rfl⟩
    go_wp2
    go_ret2
    exact ⟨none, 0, rfl, own_none _ _, Below.refl _ _⟩
  · rw [decide_eq_true (by omega)] at H1
    obtain ⟨v, rfl⟩ : ∃ v : Nat, z = v := ⟨z.toNat, by omega⟩
    have hv : v ≤ 64 := by omega
    have H2 := width_any A n cap B l w hl (by omega) hb
    have h64 := Bits.width_le64 l
    replace H1 := Lib.hid H1
    by_cases hf : Bits.width l ≤ v
    · have hfit := (Bits.width_le_iff l hv).1 hf
      have e := Bits.pack_ok hv hfit
      rw [e]
      clear e
      generalize Bits.width l = W at *
      replace H2 := Lib.hid H2
      obtain ⟨hS, hnv⟩ := Bits.size_le hn hv
      have H3 := Lib.hid (packedSize_any n v w (by omega))
      have hmk := run_make_zeros (Bits.size n v) (by omega)
      have ho1 := own_zeros w (Bits.size n v) (by simp only [maxLen]; omega)
      have hbel : Below w.heap.size w (w.alloc (.cells (madeCells #[.int .u8 0] (Bits.size n v)) 5)) := (Below.refl _ _).alloc (Nat.le_refl _) _
      have hroom : ∀ k (hk : k < l.length), Bits.cat v (l.take k) + l[k].toNat * 2 ^ (k * v) < 256 ^ Bits.size n v := fun k hk => by
        rw [← Bits.cat_take_succ hk, ← hl]
        refine Nat.lt_of_lt_of_le (Bits.cat_take_lt hfit hk) (Nat.le_trans (Nat.pow_le_pow_right (by omega) (Nat.mul_le_mul_right v hk)) (Bits.pow_size _ _))
      have Hpost : PackPost w (Bits.packed v l, 0) = PackPost w (Num.le (Bits.size n v) (Bits.cat v l), 0) := by rw [Bits.packed, hl]
      rw [Hpost]
      clear Hpost
      generalize Bits.size n v = S at *
      have Hroom := Lib.hid hroom
      have Hl := Lib.hid hl
      have Hfit := Lib.hid hfit
      clear hroom hl hfit hw
      go_enter Try.func67, Try.ntmps67
      go_wp2_with fail
      refine H1.out.mono ?_
      rintro e w1 ⟨rfl, rfl⟩
      go_wp2_with fail
      refine H2.out.mono ?_
      rintro e w1 ⟨rfl, rfl⟩
      go_wp2_with fail
      refine H3.out.mono ?_
      rintro e w1 ⟨rfl, rfl⟩
      clear H1 H2 H3
      go_wp2
      go_loopw [23] (fun i wr => ∃ (k : Nat) (t : List UInt8), k ≤ n ∧ i = .int .i64 k ∧ Own wr w.heap.size (some ⟨w.heap.size, 0, none⟩) S S t ∧ Num.val t = Bits.cat v (l.take k) ∧ Below w.heap.size w wr) (fun i _ => n - (intOf i).toNat)
      case atStart => exact ⟨0, _, by omega, rfl, ho1, by rw [Bits.val_zeros]; rfl, hbel⟩
      case round =>
        clear ho1 hbel
        obtain ⟨k, t, hk, rfl, ho, hval, hbel⟩ := hrel
        have Hval := Lib.hid hval; clear hval
        by_cases hlt : k < n
        · have hk' : k < l.length := by have := Hl.out; omega
          obtain ⟨ad, rfl, hadB, hcell⟩ := (hb.wide hB).below hbel |>.get hk'
          have hkv : k * v ≤ 4194304 := Nat.le_trans (Nat.mul_le_mul_right v hk) hnv
          have hr := Hroom.out k hk'
          rw [← Hval.out] at hr
          have hlt2 : Num.val t < 2 ^ (k * v) := by rw [Hval.out]; exact Bits.cat_take_lt Hfit.out (by omega)
          have HP := putNumber_any w.heap.size S S w.heap.size (k * v) l[k].toNat t wr ho (Bits.u64_lt _) (by omega) hlt2 hr (by omega)
          rw [Hval.out, ← Bits.cat_take_succ hk'] at HP
          simp only [uval] at hcell
          generalize l[k].toNat = x at *
          rw [Int.natCast_mul] at HP
          replace HP := Lib.hid HP
          have hkv0 : 0 ≤ (k : Int) * (v : Int) := Int.mul_nonneg (by omega) (by omega)
          have hkv1 : (k : Int) * (v : Int) ≤ 4194304 := by rw [← Int.natCast_mul]; omega
          clear hr hlt2 hkv
          go_wp2_with fail
          refine HP.out.mono ?_
          rintro e w1 ⟨t', rfl, ho', hval', hbel'⟩
          clear HP
          go_wp2
          go_roundw
          case rel => exact ⟨k + 1, t', by omega, by go_num, ho', hval', hbel.trans hbel'⟩
          case measure => simp [intOf]; omega
        · obtain rfl : k = n := by omega
          go_wp2
          go_ret2
          have hval := Hval.out
          rw [List.take_of_length_le (by rw [Hl.out]; exact Nat.le_refl _)] at hval
          have ht : t = Num.le S (Bits.cat v l) := by rw [← hval, ← ho.len, Num.le_val]
          subst ht
          refine ⟨some ⟨w.heap.size, 0, none⟩, S, ?_, ?_, hbel⟩
          · rw [Num.le_length]; rfl
          · rw [Num.le_length]; exact ho
    · have e := Bits.pack_range hv (fun h => hf ((Bits.width_le_iff l hv).2 h))
      rw [e]
      clear e
      generalize Bits.width l = W at *
      replace H2 := Lib.hid H2
      clear hb hl hw
      go_enter Try.func67, Try.ntmps67
      go_wp2_with fail
      refine H1.out.mono ?_
      rintro e w1 ⟨rfl, rfl⟩
      go_wp2_with fail
      refine H2.out.mono ?_
      rintro e w1 ⟨rfl, rfl⟩
      go_wp2
      go_ret2
      exact ⟨none, 0, rfl, own_none _ _, Below.refl _ _⟩
end Go.Proofs.Ytcknijkjacgnkaa
