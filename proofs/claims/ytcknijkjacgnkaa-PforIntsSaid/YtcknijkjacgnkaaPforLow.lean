/- pfor.packLowBits. -/
import Derived.Test.YtcknijkjacgnkaaPforEnc
namespace Go.Proofs.Ytcknijkjacgnkaa
open Go.RowKit

/-- what a made slice holds when k of its cells are stored -/
theorem fill_set {α : Type} {l : List α} {n k : Nat} (z : α) (hl : l.length = n) (hk : k < n) : (l.take k ++ List.replicate (n - k) z).set k (l[k]'(by omega)) = l.take (k + 1) ++ List.replicate (n - (k + 1)) z := by
  have e : List.replicate (n - k) z = z :: List.replicate (n - (k + 1)) z := by rw [show n - k = (n - (k + 1)) + 1 from by omega, List.replicate_succ]
  have hlk : (l.take k).length = k := by simp; omega
  rw [e, List.set_append_right _ _ (by omega), hlk, Nat.sub_self, List.set_cons_zero, List.take_succ_eq_append_getElem (by omega), List.append_assoc]
  rfl
theorem fill_get {α : Type} {l : List α} {n k : Nat} (z : α) (hl : l.length = n) (hk : k < n) : ∃ h : k < (l.take k ++ List.replicate (n - k) z).length, (l.take k ++ List.replicate (n - k) z)[k] = z := by
  have hlk : (l.take k).length = k := by simp; omega
  refine ⟨by simp; omega, ?_⟩
  rw [List.getElem_append_right (by omega), List.getElem_replicate]

set_option maxHeartbeats 1000000 in
theorem packLowBits_any (A : Option Addr) (n cap B v : Nat) (l : List UInt64) (w : World) (hl : l.length = n) (hn : n ≤ 32) (hv : v ≤ 64) (hb : Nums w B A l) (hB : B ≤ w.heap.size) :
    Calls Try.prog 51 #[.slice A n cap, .int .i64 (v : Int)] w fun e w' => ∃ A' c, e = .returned (.slice A' (Bits.packed v (Pfor.lows v l)).length c) ∧
      Own w' w.heap.size A' (Bits.packed v (Pfor.lows v l)).length c (Bits.packed v (Pfor.lows v l)) ∧ Below w.heap.size w w' := by
  have hb := hb.wide hB
  have hmk := run_make_nums n (by omega) w
  have ho0 := own_nums w n (by simp only [maxLen]; omega)
  have hbel0 : Below w.heap.size w (w.alloc (.cells (madeCells #[.int .u64 0] n) 50)) := (Below.refl _ _).alloc (Nat.le_refl _) _
  generalize w.alloc (.cells (madeCells #[.int .u64 0] n) 50) = w0 at *
  have hll : (Pfor.lows v l).length = n := by rw [Pfor.lows_length, hl]
  have H1 := Lib.hid (fun (g c : Nat) (wr : World) (ho : NOwn wr w.heap.size (some ⟨g, 0, none⟩) n c (Pfor.lows v l)) => pack_any (some ⟨g, 0, none⟩) n c wr.heap.size v (Pfor.lows v l) wr hll (by omega) ho.row (Nat.le_refl _))
  rw [Bits.pack_ok hv (Pfor.lows_fit l)] at H1
  have Hll := Lib.hid hll
  have Hl := Lib.hid hl
  clear hll hl
  obtain ⟨g, hg⟩ : ∃ g, g = w.heap.size := ⟨_, rfl⟩
  rw [← hg] at hmk ho0 hbel0 H1 hb ⊢
  have Hg := Lib.hid hg; clear hg
  go_enter Try.func51, Try.ntmps51
  go_wp2
  go_loopw [15] (fun i wr => ∃ (k : Nat), k ≤ n ∧ i = .int .i64 k ∧ NOwn wr g (some ⟨g, 0, none⟩) n n ((Pfor.lows v l).take k ++ List.replicate (n - k) 0) ∧ Below g w wr) (fun i _ => n - (intOf i).toNat)
  case atStart => exact ⟨0, by omega, rfl, by simpa using ho0, hbel0⟩
  case round =>
    clear ho0 hbel0 hmk
    obtain ⟨k, hk, rfl, ho, hbel⟩ := hrel
    have hbr := hb.below hbel
    by_cases hlt : k < n
    · have hk' : k < l.length := by have := Hl.out; omega
      obtain ⟨ad, rfl, hlt', hcell⟩ := hbr.get hk'
      simp only [uval] at hcell
      obtain ⟨hg1, hg2⟩ := fill_get (0 : UInt64) Hll.out hlt
      have hold := ho.cell hg1
      rw [hg2] at hold
      have hold' : wr.cell? ⟨g, k, none⟩ = some (.int .u64 0) := hold
      have hfree := ho.free k
      have hst := ho.store k ((Pfor.lows v l)[k]'(by rw [Hll.out]; exact hlt))
      rw [fill_set (0 : UInt64) Hll.out hlt, Pfor.lows_get hk'] at hst
      obtain ⟨z, hz, hz0, hz1⟩ : ∃ z : Int, z = (l[k].toNat : Int) ∧ 0 ≤ z ∧ z ≤ 18446744073709551615 := ⟨_, rfl, by omega, by have := Bits.u64_lt l[k]; omega⟩
      have hm := mask (Y := l[k].toNat) hv hz (Bits.u64_lt _)
      have hu : uval (UInt64.ofNat (l[k].toNat % 2 ^ v)) = .int .u64 ((l[k].toNat % 2 ^ v : Nat) : Int) := by unfold uval; rw [Pfor.low_toNat]
      rw [hu, ← hm] at hst
      rw [← hz] at hcell
      have Hst := Lib.hid hst
      have Hbl := Lib.hid (hbel.setCell (p := ⟨g, k, none⟩) (Nat.le_refl _) (.int .u64 (bits .and .u64 z (IntKind.u64.wrap (IntKind.u64.wrap (2 ^ v) - 1)))))
      clear hst hu hm hz hold hg1 hg2 ho
      go_wp2
      go_roundw
      case rel => exact ⟨k + 1, by omega, by go_num, Hst.out, Hbl.out⟩
      case measure => simp [intOf]; omega
    · obtain rfl : k = n := by omega
      rw [Nat.sub_self, List.replicate_zero, List.append_nil, List.take_of_length_le (by rw [Hll.out]; exact Nat.le_refl _)] at ho
      have C1 := Lib.hid (H1.out g k wr ho)
      clear H1
      go_wp2_with fail
      refine C1.out.mono ?_
      rintro e w2 ⟨A2, c2, rfl, ho2, hb2⟩
      clear C1
      go_wp2
      go_ret
      rw [Hg.out] at hbel ⊢
      exact ⟨A2, c2, rfl, ho2.low hbel.size, hbel.trans (hb2.mono hbel.size)⟩
end Go.Proofs.Ytcknijkjacgnkaa
