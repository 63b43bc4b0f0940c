/- The document's Bits. -/
import Derived.Test.YtggelnlbdpdegaaDoorRstSame
import Derived.Test.YtggelnlbdpdegaaDoorRstComb
namespace Go.Proofs.YtggelnlbdpdegaaDoor
open Go.RowKit
set_option maxRecDepth 100000

set_option maxHeartbeats 400000 in
theorem bits_any (m : Nat) (A : Option Addr) (n c B : Nat) (ws : List UInt64) (w : World) (hm : m ≤ 4096) (hl : ws.length = n) (hn : n = Rst.need m) (hb : Nums w B A ws) (hB : B ≤ w.heap.size) :
    Calls Tryd.prog 21 #[rval (m : Int) A n c] w fun e w' => ∃ g, e = .returned (.slice (some ⟨g, 0, none⟩) m m) ∧ BOwn w' w.heap.size (some ⟨g, 0, none⟩) m m (Rst.bitsOf m ws) ∧ Below w.heap.size w w' := by
  have hx1 := RBox.new w (m : Int) A n c
  have hbel : Below w.heap.size w (w.alloc (.cells #[.int .i64 (m : Int), .slice A n c] 24)) := (Below.refl _ _).alloc (Nat.le_refl _) _
  have hsz : (w.alloc (.cells #[.int .i64 (m : Int), .slice A n c] 24)).heap.size = w.heap.size + 1 := by simp
  have hb := hb.below (hbel.mono hB)
  have hmk := run_make_bools m (by omega)
  have ho := own_bools (w.alloc (.cells #[.int .i64 (m : Int), .slice A n c] 24)) m (by simp only [maxLen]; omega)
  have hL := Rst.bitsOf_length m ws
  have HL := Lib.hid hL
  have Hl := Lib.hid hl
  have Hn := Lib.hid hn
  have Hget := Lib.hid (fun i (h : i < m) => Rst.bitsOf_get (ws := ws) h)
  clear hl hn hL
  unfold rval
  go_enter Tryd.func21, Tryd.ntmps21
  go_wp2_with fail
  generalize w.alloc (.cells #[.int .i64 (m : Int), .slice A n c] 24) = w1 at *
  rw [hsz] at ho
  have hx1 := hx1.alloc (.cells (madeCells #[.bool false] m) 4)
  have hbel := hbel.alloc (by omega) (.cells (madeCells #[.bool false] m) 4)
  have hb := hb.below (B := B) (w' := w1.alloc (.cells (madeCells #[.bool false] m) 4)) (((Below.refl _ _).alloc (Nat.le_refl _) _).mono (by omega))
  go_wp2
  generalize w1.alloc (.cells (madeCells #[.bool false] m) 4) = w2 at *
  clear hmk
  go_loopw [4] (fun i wr => ∃ k : Nat, k ≤ m ∧ i = .int .i64 k ∧ BOwn wr (w.heap.size + 1) (some ⟨w.heap.size + 1, 0, none⟩) m m ((Rst.bitsOf m ws).take k ++ List.replicate (m - k) false) ∧ w2.grownBy wr (some (w.heap.size + 1))) (fun i _ => m - (intOf i).toNat)
  case atStart => exact ⟨0, by omega, rfl, by simpa using ho, World.grownBy.refl _ _⟩
  case round =>
    clear ho
    obtain ⟨k, hk, rfl, ho, hgr⟩ := hrel
    have hx1r := hx1.grown hgr (by intro e; injection e with e; omega)
    have hbelr := hbel.grown hgr (by have := hbel.size; omega) (by intro j hj; injection hj with hj; omega)
    obtain ⟨c10, c11⟩ := hx1r.cell
    by_cases hlt : k < m
    · have hj : k / 64 < ws.length := by have := Hl.out; have := Hn.out; unfold Rst.need at this; omega
      have hbr := hb.keep (w' := wr) (fun p hp => hgr.cell_far p (by have := hbel.size; omega) (by intro e; injection e with e; omega))
      obtain ⟨ad, rfl, hadB, d1⟩ := hbr.get hj
      have hkl : k < ((Rst.bitsOf m ws).take k ++ List.replicate (m - k) false).length := by rw [ho.len]; exact hlt
      have hcell := ho.cell hkl
      have hfree := ho.free k
      have hst := ho.store k ((Rst.bitsOf m ws)[k]'(by rw [HL.out]; exact hlt))
      rw [fillU_set false HL.out hlt, Hget.out k hlt, Rst.bit_get hj, Nat.testBit_eq_decide_div_mod_eq] at hst
      simp only [uval] at d1
      simp only [blval] at hcell hst
      have hjn : k / 64 < n := by have := Hl.out; omega
      have hquo : (k : Int) / 64 = ((k / 64 : Nat) : Int) := by omega
      have hrem : (k : Int) % 64 = ((k % 64 : Nat) : Int) := by omega
      have hs64 : k % 64 < 64 := by omega
      generalize ((Rst.bitsOf m ws).take k ++ List.replicate (m - k) false)[k] = old at *
      have hx : ws[k / 64].toNat < 18446744073709551616 := Rst.u64_lt _
      generalize ws[k / 64].toNat = x at *
      have hz : (x : Int) / 2 ^ (k % 64) = ((x / 2 ^ (k % 64) : Nat) : Int) := by rw [Int.natCast_ediv, Int.natCast_pow]; rfl
      have hbit : (((x / 2 ^ (k % 64) : Nat) : Int) % 2 == 1) = decide (x / 2 ^ (k % 64) % 2 = 1) := by
        rw [Bool.eq_iff_iff]; simp; omega
      generalize x / 2 ^ (k % 64) = z at *
      generalize decide (z % 2 = 1) = bt at *
      obtain ⟨Z, hZ, hZ0⟩ : ∃ Z : Int, Z = (z : Int) ∧ 0 ≤ Z := ⟨z, rfl, by omega⟩
      obtain ⟨X, hX, hX0, hX1⟩ : ∃ X : Int, X = (x : Int) ∧ 0 ≤ X ∧ X ≤ 18446744073709551615 := ⟨x, rfl, by omega, by omega⟩
      rw [← hX] at d1 hz
      rw [← hZ] at hz hbit
      have Hst := Lib.hid hst
      have Hg := Lib.hid (fun u => Lib.grownBy_setB hgr k u)
      clear hX hZ hx hst ho hgr hkl hj hx1r
      generalize k / 64 = j at *
      generalize k % 64 = s at *
      have hk4 : k ≤ 4096 := by omega
      go_wp2
      go_roundw
      case rel => exact ⟨k + 1, by omega, by go_num, Hst.out, Hg.out _⟩
      case measure => simp [intOf]; omega
    · obtain rfl : k = m := by omega
      rw [Nat.sub_self, List.replicate_zero, List.append_nil, List.take_of_length_le (by rw [HL.out]; exact Nat.le_refl _)] at ho
      go_wp2
      go_ret
      exact ⟨_, rfl, ho.low (by omega), hbelr⟩
end Go.Proofs.YtggelnlbdpdegaaDoor
