/- dragnetref02.Bytes, Int and Row: the document's encodings. -/
import Derived.Test.YtmcioglidgbibaaPut
namespace Go.Proofs.Ytmcioglidgbibaa
open Go.RowKit
set_option maxRecDepth 100000

theorem Num.pow_le {v k : Nat} (hv : v < 18446744073709551616) (hk : k < Num.width v) : 256 ^ k ≤ v := by
  rcases Nat.lt_or_ge v (256 ^ k) with hlt | hge
  · have h8 := Num.width_le8 hv
    have := Num.width_le (by omega) hlt
    omega
  · exact hge

theorem run_index_own (g m c i : Nat) (hi : i < m) (u : World) : (Instr.indexAt 24 (.slice (some ⟨g, 0, none⟩) m c) (.int .i64 (i : Int))).run Try.prog u = .ok (.pointer (some ⟨g, i, none⟩)) u := by
  obtain ⟨i0, hi0, hz0, hz1, hz2⟩ := info_parts byte_info
  have he : Try.prog.elem 24 = 5 := by kernel_rfl
  rw [run_indexAt_slice _ _ _ _ _ _ _ Try.underlying24, if_pos ⟨by omega, by omega⟩, he]
  by_cases h0 : i = 0 <;> simp [sizeOf, typeInfo, hi0, hz1, Addr.add, h0]

set_option maxHeartbeats 1000000 in
theorem refBytes_any (v : Nat) (w : World) (hv : v < 18446744073709551616) :
    Calls Try.prog 42 #[.int .u64 (v : Int)] w (MadeIn w.heap.size w (Num.size v) (Num.num v)) := by
  obtain ⟨x, hx, h0, h1⟩ : ∃ x : Int, x = (v : Int) ∧ 0 ≤ x ∧ x ≤ 18446744073709551615 := ⟨v, rfl, by omega, by omega⟩
  rw [← hx]
  by_cases hs : v ≤ 247
  · have hone := own_one w (UInt8.ofNat v) x (by rw [bval_small (by omega), hx])
    have hbel : Below w.heap.size w (w.alloc (.cells #[.int .u8 x] 5)) := (Below.refl _ _).alloc (Nat.le_refl _) _
    have hsz : Num.size v = 1 := by unfold Num.size; rw [if_pos hs]
    have hnum : Num.num v = [UInt8.ofNat v] := by unfold Num.num; rw [if_pos hs]
    rw [hsz, hnum]
    have hs' : x ≤ 247 := by omega
    clear hx hv hs h1 hsz hnum
    go_enter Try.func42, Try.ntmps42
    go_wp2
    go_ret
    exact ⟨_, _, rfl, hone, hbel⟩
  · have hK8 := Num.width_le8 hv
    have hsz : Num.size v = 1 + Num.width v := by unfold Num.size; rw [if_neg hs]
    have hnum : Num.num v = UInt8.ofNat (247 + Num.width v) :: Num.le (Num.width v) v := by unfold Num.num; rw [if_neg hs]
    have hlt := Num.lt_width hv
    have hge := fun k => Num.pow_le (v := v) (k := k) hv
    rw [hsz, hnum]
    generalize Num.width v = K at *
    have hone := own_one w (247 : UInt8) 247 rfl
    have hbel : Below w.heap.size w (w.alloc (.cells #[.int .u8 247] 5)) := (Below.refl _ _).alloc (Nat.le_refl _) _
    have hs' : 247 < x := by omega
    have Hx := Lib.hid hx
    have Hlt := Lib.hid hlt
    have Hge := Lib.hid hge
    clear hx hv hs hsz hnum hlt hge
    go_enter Try.func42, Try.ntmps42
    go_wp2
    go_loopw [0, 3] (fun y s wr => ∃ (k : Nat) (z : Int) (A : Option Addr) (c : Nat), k ≤ K ∧ y = .int .u64 z ∧ z = ((v / 256 ^ k : Nat) : Int) ∧ 0 ≤ z ∧ z ≤ 18446744073709551615 ∧ s = .slice A (k + 1) c ∧ Own wr w.heap.size A (k + 1) c (UInt8.ofNat (247 + k) :: Num.le k v) ∧ Below w.heap.size w wr) (fun y _ _ => (intOf y).toNat)
    case atStart => exact ⟨0, x, _, _, by omega, rfl, by rw [Hx.out]; simp, h0, h1, rfl, hone, hbel⟩
    case round =>
      obtain ⟨k, z, A, c, hk, rfl, hz, hz0, hz1, rfl, ho, hb⟩ := hrel
      have Hz := Lib.hid hz; clear hz
      by_cases hlt : k < K
      · have hpos : 0 < z := by
          have h1 := Hge.out k hlt
          have h2 : 0 < v / 256 ^ k := Nat.div_pos h1 (Nat.pow_pos (by omega))
          rw [Hz.out]; omega
        have hone := own_one wr (UInt8.ofNat (v / 256 ^ k)) (z % 256) (by rw [bval_ofNat, Hz.out])
        have hb1 := hone.bytes
        have ho1 := ho.alloc (.cells #[.int .u8 (z % 256)] 5)
        have hbel2 : Below w.heap.size w (wr.alloc (.cells #[.int .u8 (z % 256)] 5)) := hb.alloc hb.size _
        have hsz : w.heap.size ≤ (wr.alloc (.cells #[.int .u8 (z % 256)] 5)).heap.size := hbel2.size
        clear hone ho
        go_wp2_with (at_builtin; refine wpList_append_bytes rfl (.tmp 12) (.tmp 16) rfl w.heap.size A (k + 1) c _ rfl ho1 _ _ 1 1 [UInt8.ofNat (v / 256 ^ k)] rfl rfl hb1 (by omega) hsz ?_; intro A2 c2 w2 ho3 hg3 hat3)
        have hbw2 := hbel2.grown hg3 hsz (fun k hk => (ho1.lt hk).1)
        rw [List.cons_append, ← Num.le_snoc] at ho3
        obtain ⟨g, rfl, hg1, hg2⟩ := ho3.at_ (by omega)
        have hcell := ho3.cell (k := 0) (by simp)
        simp only [List.getElem_cons_zero, Num.toNat_ofNat, Nat.mod_eq_of_lt (show 247 + k < 256 by omega)] at hcell
        have hfree := ho3.free 0
        have hst := ho3.store 0 (UInt8.ofNat (247 + (k + 1)))
        rw [bval_small (by omega), List.set_cons_zero] at hst
        rw [show ((247 + (k + 1) : Nat) : Int) = 247 + (k : Int) + 1 from by omega] at hst
        rw [show ((247 + k : Nat) : Int) = 247 + (k : Int) from by omega] at hcell
        have Hst := Lib.hid hst
        have Hbl := Lib.hid (hbw2.setCell (p := ⟨g, 0, none⟩) hg1 (.int .u8 (247 + (k : Int) + 1)))
        clear hst ho3 ho1 hb1 hg3 hat3 hsz hbel2 hbw2 hg1 hg2
        have hidx := run_index_own g (k + 1 + 1) c2 0 (by omega)
        simp only [Int.natCast_zero] at hidx
        rw [hidx]
        go_wp2
        go_roundw
        case rel => exact ⟨k + 1, z / 256, _, c2, by omega, rfl, by rw [Hz.out, Nat.pow_succ, ← Nat.div_div_eq_div_mul]; omega, by omega, by omega, by go_num, Hst.out, Hbl.out⟩
        case measure => simp [intOf]; omega
      · obtain rfl : k = K := by omega
        have hz : z = 0 := by rw [Hz.out, Nat.div_eq_of_lt Hlt.out]; rfl
        subst hz
        go_wp2
        go_ret
        obtain ⟨g, rfl, _⟩ := ho.at_ (by omega)
        rw [Nat.add_comm k 1] at ho
        exact ⟨g, c, congrArg (fun m => Ending.returned (.slice (some ⟨g, 0, none⟩) m c)) (by omega), ho, hb⟩
end Go.Proofs.Ytmcioglidgbibaa
