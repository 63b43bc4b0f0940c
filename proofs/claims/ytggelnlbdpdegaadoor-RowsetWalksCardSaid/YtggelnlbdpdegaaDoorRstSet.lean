/- The document's Set. -/
import Derived.Test.YtggelnlbdpdegaaDoorRstBits
namespace Go.Proofs.YtggelnlbdpdegaaDoor
open Go.RowKit
set_option maxRecDepth 100000

theorem sum_word {x s B : Nat} (hB : B = x + 2 ^ s) (hlt : B < 18446744073709551616) : IntKind.u64.wrap ((x : Int) + IntKind.u64.wrap (2 ^ s)) = (B : Int) := by
  have h2 : (2 : Int) ^ s = ((2 ^ s : Nat) : Int) := by rw [Int.natCast_pow]; rfl
  rw [h2, IntKind.wrap_u64, IntKind.wrap_u64]
  generalize 2 ^ s = P at *
  omega
theorem nown_zero (w : World) : NOwn (w.alloc (.cells #[.int .u64 0] 41)) w.heap.size (some ⟨w.heap.size, 0, none⟩) 1 1 [0] :=
  ROwn.lit (f := uval) (e := 41) w w.heap.size [0] (Nat.le_refl _) (by simp [maxLen])
set_option maxHeartbeats 2000000 in
theorem set_any (A : Option Addr) (n c B : Nat) (l : List Bool) (w : World) (hl : l.length = n) (hn : n ≤ 4096) (hb : Bools w B A l) (hB : B ≤ w.heap.size) :
    Calls Tryd.prog 24 #[.slice A n c] w fun e w' => ∃ A' c', e = .returned (rval (n : Int) A' (Rst.need n) c') ∧ NOwn w' w.heap.size A' (Rst.need n) c' (Rst.pack l) ∧ Below w.heap.size w w' := by
  have hx2 := (RBox.new w 0 none 0 0).alloc (.cells #[.int .i64 (n : Int), .slice none 0 0] 24)
  have hx3 := RBox.new (w.alloc (.cells #[.int .i64 0, .slice none 0 0] 24)) (n : Int) none 0 0
  rw [show (w.alloc (.cells #[.int .i64 0, .slice none 0 0] 24)).heap.size = w.heap.size + 1 by simp] at hx3
  have hbel : Below w.heap.size w ((w.alloc (.cells #[.int .i64 0, .slice none 0 0] 24)).alloc (.cells #[.int .i64 (n : Int), .slice none 0 0] 24)) := ((Below.refl _ _).alloc (Nat.le_refl _) _).alloc (by simp) _
  have hsz : ((w.alloc (.cells #[.int .i64 0, .slice none 0 0] 24)).alloc (.cells #[.int .i64 (n : Int), .slice none 0 0] 24)).heap.size = w.heap.size + 1 + 1 := by simp
  have Hl := Lib.hid hl
  clear hl
  go_enter Tryd.func24, Tryd.ntmps24
  go_wp2
  generalize (w.alloc (.cells #[.int .i64 0, .slice none 0 0] 24)).alloc (.cells #[.int .i64 (n : Int), .slice none 0 0] 24) = w1 at *
  have hs1 : w.heap.size + 1 + 1 ≤ w1.heap.size := by omega
  clear hsz
  go_loopw [4] (fun i wr => ∃ (k c' : Nat) (A' : Option Addr), k ≤ n ∧ i = .int .i64 k ∧ RBox wr (w.heap.size + 1) (n : Int) A' (Rst.need k) c' ∧ NOwn wr (w.heap.size + 1 + 1) A' (Rst.need k) c' (Rst.pack (l.take k)) ∧ RBox wr w.heap.size 0 none 0 0 ∧ Below w.heap.size w wr ∧ w.heap.size + 1 + 1 ≤ wr.heap.size) (fun i _ => n - (intOf i).toNat)
  case atStart => exact ⟨0, 0, none, by omega, rfl, hx3, (by rw [List.take_zero]; exact nown_none _ _), hx2, hbel, hs1⟩
  case round =>
    clear hx2 hx3 hbel hs1
    obtain ⟨k, c', A', hk, rfl, hx3, ho, hx2, hbel, hs⟩ := hrel
    obtain ⟨c30, c31⟩ := hx3.cell
    have f31 := hx3.free 1
    by_cases hlt : k < n
    · have hk' : k < l.length := by have := Hl.out; omega
      obtain ⟨R, x, hRl, ⟨hj, hRx⟩, hadd, hnew, hold, hF, hT⟩ := Rst.set_step hk'
      have hquo : (k : Int) / 64 = ((k / 64 : Nat) : Int) := by omega
      have hrem : (k : Int) % 64 = ((k % 64 : Nat) : Int) := by omega
      have hs64 : k % 64 < 64 := by omega
      have hBk := hb.below (hbel.mono hB)
      obtain ⟨ad, rfl, hadB, d1⟩ := hBk.get hk'
      have hadB : ad.block < w.heap.size := by omega
      simp only [blval] at d1
      have HRl := Lib.hid hRl
      have hS64 := need_le (show k ≤ 4096 by omega)
      rcases hlk : l[k] with _ | _
      · by_cases h0 : k % 64 = 0
        · rw [hlk] at d1
          have Hfin := Lib.hid (hF hlk)
          clear hT hF hlk
          clear hadd
          have hS : Rst.need k + 1 = Rst.need (k + 1) := by unfold Rst.need; omega
          have HS := Lib.hid hS
          have hz0 : (((k % 64 : Nat) : Int) == 0) = true := by rw [h0]; rfl
          have hz1 : ((k : Int) % 64 == 0) = true := by simp; omega
          have Hnew := Lib.hid (hnew h0)
          have hone := (nown_zero wr).row
          have hoA := ho.alloc (.cells #[.int .u64 0] 41)
          have hx2A := hx2.alloc (.cells #[.int .u64 0] 41)
          have hx3A := hx3.alloc (.cells #[.int .u64 0] 41)
          have hbelA := hbel.alloc (by omega) (.cells #[.int .u64 0] 41)
          have hszA : w.heap.size + 1 + 1 ≤ (wr.alloc (.cells #[.int .u64 0] 41)).heap.size := by simp; omega
          have d1A : (wr.alloc (.cells #[.int .u64 0] 41)).cell? (ad.add k) = some (.bool false) := (((Below.refl wr.heap.size wr).alloc (Nat.le_refl _) _).cell (by rw [addr_add_block]; omega)).trans d1
          clear ho hold hnew hRl hS hx2 hx3 hbel d1 hBk
          obtain ⟨S0, hS0⟩ : ∃ S0, S0 = Rst.need k := ⟨_, rfl⟩
          rw [← hS0] at hoA hx3A c31 hS64 HS
          have HS0 := Lib.hid hS0
          clear hS0
          clear h0
          generalize k / 64 = j at *
          generalize k % 64 = s at *
          go_wp2_with (
            at_builtin
            (refine wpList_append_row elem64 rfl (.tmp 18) (.tmp 19) rfl (w.heap.size + 1 + 1) A' S0 c' _ rfl hoA _ _ 1 1 [_] rfl rfl hone (by omega) (by simp only [maxLen]; omega) hszA ?_)
            intro A4 c4 w4 ho4 hg4 hat4
            have hne4 : ∀ q, q < w.heap.size + 1 + 1 → some q ≠ blk A' := fun q hq e => by have := (hoA.lt e.symm).1; omega
            have hx3b := hx3A.grown hg4 (hne4 _ (by omega))
            have hx2b := hx2A.grown hg4 (hne4 _ (by omega))
            have hbelb := hbelA.grown hg4 (by omega) (fun q hq => by have := (hoA.lt hq).1; omega)
            have d1b := (hg4.cell_far (ad.add k) (by rw [addr_add_block]; omega) (by rw [addr_add_block]; exact hne4 _ (by omega))).trans d1A
            obtain ⟨k30, k31⟩ := hx3b.cell
            have g31 := hx3b.free 1
            have hs4 : w.heap.size + 1 + 1 ≤ w4.heap.size := Nat.le_trans hszA hg4.size
            have hx3c := hx3b.set1 A4 (S0 + 1) c4
            have hx2c := hx2b.setFar (a := ⟨w.heap.size + 1, 1, none⟩) (by simp) (.slice A4 (S0 + 1) c4)
            have ho5 := ho4.setFar (a := ⟨w.heap.size + 1, 1, none⟩) (by simp) (.slice A4 (S0 + 1) c4)
            rw [Hnew.out] at ho5
            have hbelc := hbelb.setCell (p := ⟨w.heap.size + 1, 1, none⟩) (by simp) (.slice A4 (S0 + 1) c4)
            have d1c := (World.cell?_setCell_far w4 ⟨w.heap.size + 1, 1, none⟩ (ad.add k) (.slice A4 (S0 + 1) c4) (by rw [addr_add_block]; simp; omega)).trans d1b
            obtain ⟨m30, m31⟩ := hx3c.cell
            have hs5 : w.heap.size + 1 + 1 ≤ (w4.setCell ⟨w.heap.size + 1, 1, none⟩ (.slice A4 (S0 + 1) c4)).heap.size := by simp [World.setCell]; omega
            rw [Hfin.out] at ho5
            clear ho4 hg4 hat4 hne4 hx3b hx2b hbelb d1b
            )
          go_roundw
          case rel => exact ⟨k + 1, c4, A4, by omega, by go_num, (by rw [← HS.out]; exact hx3c), (by rw [← HS.out]; exact ho5), hx2c, hbelc, hs5⟩
          case measure => simp [intOf]; omega
        · rw [hlk] at d1
          have Hfin := Lib.hid (hF hlk)
          clear hT hF hlk
          clear hadd
          have hS : Rst.need k = Rst.need (k + 1) := by unfold Rst.need; omega
          have HS := Lib.hid hS
          have hz0 : (((k % 64 : Nat) : Int) == 0) = false := by simp; omega
          have hz1 : ((k : Int) % 64 == 0) = false := by simp; omega
          rw [hold h0] at ho
          clear hold hnew hRl hS
          obtain ⟨S0, hS0⟩ : ∃ S0, S0 = Rst.need k := ⟨_, rfl⟩
          rw [← hS0] at ho hx3 c31 hS64 HS
          have HS0 := Lib.hid hS0
          clear hS0
          clear h0
          generalize k / 64 = j at *
          generalize k % 64 = s at *
          rw [Hfin.out] at ho
          go_wp2
          go_roundw
          case rel => exact ⟨k + 1, c', A', by omega, by go_num, (by rw [← HS.out]; exact hx3), (by rw [← HS.out]; exact ho), hx2, hbel, hs⟩
          case measure => simp [intOf]; omega
      · by_cases h0 : k % 64 = 0
        · rw [hlk] at d1
          have Hfin := Lib.hid (hT hlk)
          clear hT hF hlk
          have hsum := sum_word (x := x) rfl hadd
          have hB64 : x + 2 ^ (k % 64) < 18446744073709551616 := hadd
          generalize x + 2 ^ (k % 64) = Bw at *
          have hxlt : x < 18446744073709551616 := by rw [← hRx]; exact Rst.u64_lt _
          clear hadd
          have hS : Rst.need k + 1 = Rst.need (k + 1) := by unfold Rst.need; omega
          have HS := Lib.hid hS
          have hz0 : (((k % 64 : Nat) : Int) == 0) = true := by rw [h0]; rfl
          have hz1 : ((k : Int) % 64 == 0) = true := by simp; omega
          have Hnew := Lib.hid (hnew h0)
          have hone := (nown_zero wr).row
          have hoA := ho.alloc (.cells #[.int .u64 0] 41)
          have hx2A := hx2.alloc (.cells #[.int .u64 0] 41)
          have hx3A := hx3.alloc (.cells #[.int .u64 0] 41)
          have hbelA := hbel.alloc (by omega) (.cells #[.int .u64 0] 41)
          have hszA : w.heap.size + 1 + 1 ≤ (wr.alloc (.cells #[.int .u64 0] 41)).heap.size := by simp; omega
          have d1A : (wr.alloc (.cells #[.int .u64 0] 41)).cell? (ad.add k) = some (.bool true) := (((Below.refl wr.heap.size wr).alloc (Nat.le_refl _) _).cell (by rw [addr_add_block]; omega)).trans d1
          clear ho hold hnew hRl hS hx2 hx3 hbel d1 hBk
          obtain ⟨S0, hS0⟩ : ∃ S0, S0 = Rst.need k := ⟨_, rfl⟩
          rw [← hS0] at hoA hx3A c31 hS64 HS
          have HS0 := Lib.hid hS0
          clear hS0
          clear h0
          generalize k / 64 = j at *
          generalize k % 64 = s at *
          go_wp2_with (
            at_builtin
            (refine wpList_append_row elem64 rfl (.tmp 18) (.tmp 19) rfl (w.heap.size + 1 + 1) A' S0 c' _ rfl hoA _ _ 1 1 [_] rfl rfl hone (by omega) (by simp only [maxLen]; omega) hszA ?_)
            intro A4 c4 w4 ho4 hg4 hat4
            have hne4 : ∀ q, q < w.heap.size + 1 + 1 → some q ≠ blk A' := fun q hq e => by have := (hoA.lt e.symm).1; omega
            have hx3b := hx3A.grown hg4 (hne4 _ (by omega))
            have hx2b := hx2A.grown hg4 (hne4 _ (by omega))
            have hbelb := hbelA.grown hg4 (by omega) (fun q hq => by have := (hoA.lt hq).1; omega)
            have d1b := (hg4.cell_far (ad.add k) (by rw [addr_add_block]; omega) (by rw [addr_add_block]; exact hne4 _ (by omega))).trans d1A
            obtain ⟨k30, k31⟩ := hx3b.cell
            have g31 := hx3b.free 1
            have hs4 : w.heap.size + 1 + 1 ≤ w4.heap.size := Nat.le_trans hszA hg4.size
            have hx3c := hx3b.set1 A4 (S0 + 1) c4
            have hx2c := hx2b.setFar (a := ⟨w.heap.size + 1, 1, none⟩) (by simp) (.slice A4 (S0 + 1) c4)
            have ho5 := ho4.setFar (a := ⟨w.heap.size + 1, 1, none⟩) (by simp) (.slice A4 (S0 + 1) c4)
            rw [Hnew.out] at ho5
            have hbelc := hbelb.setCell (p := ⟨w.heap.size + 1, 1, none⟩) (by simp) (.slice A4 (S0 + 1) c4)
            have d1c := (World.cell?_setCell_far w4 ⟨w.heap.size + 1, 1, none⟩ (ad.add k) (.slice A4 (S0 + 1) c4) (by rw [addr_add_block]; simp; omega)).trans d1b
            obtain ⟨m30, m31⟩ := hx3c.cell
            have hs5 : w.heap.size + 1 + 1 ≤ (w4.setCell ⟨w.heap.size + 1, 1, none⟩ (.slice A4 (S0 + 1) c4)).heap.size := by simp [World.setCell]; omega
            have hjn : j < S0 + 1 := by have := HRl.out; have := HS.out; omega
            obtain ⟨g, rfl, hg0, hg1⟩ := ho5.at_ (by omega)
            have xcell := ho5.cell hj
            have xfree := ho5.free (j)
            have hst := ho5.store (j) (UInt64.ofNat Bw)
            rw [Hfin.out, uval_ofNat hB64] at hst
            have Hst := Lib.hid hst
            simp only [uval] at xcell
            rw [hRx] at xcell
            have hx3d := hx3c.setFar (a := ⟨g, j, none⟩) (by simp; omega) (.int .u64 (Bw : Int))
            have hx2d := hx2c.setFar (a := ⟨g, j, none⟩) (by simp; omega) (.int .u64 (Bw : Int))
            have hbeld := hbelc.setCell (p := ⟨g, j, none⟩) (by simp; omega) (.int .u64 (Bw : Int))
            clear hst ho5 ho4 hg4 hat4 hne4 hx3b hx2b hbelb d1b hx3c hx2c hbelc hRx
            )
          go_region
          go_wp2
          go_roundw
          case rel => exact ⟨k + 1, c4, some ⟨g, 0, none⟩, by omega, by go_num, (by rw [← HS.out]; exact hx3d.drew), (by rw [← HS.out]; exact Hst.out), hx2d.drew, hbeld.drew, (by simp only [World.setCell, World.drew, Array.size_modify] at hs5 ⊢; exact hs5)⟩
          case measure => simp [intOf]; omega
        · rw [hlk] at d1
          have Hfin := Lib.hid (hT hlk)
          clear hT hF hlk
          have hsum := sum_word (x := x) rfl hadd
          have hB64 : x + 2 ^ (k % 64) < 18446744073709551616 := hadd
          generalize x + 2 ^ (k % 64) = Bw at *
          have hxlt : x < 18446744073709551616 := by rw [← hRx]; exact Rst.u64_lt _
          clear hadd
          have hS : Rst.need k = Rst.need (k + 1) := by unfold Rst.need; omega
          have HS := Lib.hid hS
          have hz0 : (((k % 64 : Nat) : Int) == 0) = false := by simp; omega
          have hz1 : ((k : Int) % 64 == 0) = false := by simp; omega
          rw [hold h0] at ho
          clear hold hnew hRl hS
          obtain ⟨S0, hS0⟩ : ∃ S0, S0 = Rst.need k := ⟨_, rfl⟩
          rw [← hS0] at ho hx3 c31 hS64 HS
          have HS0 := Lib.hid hS0
          clear hS0
          clear h0
          generalize k / 64 = j at *
          generalize k % 64 = s at *
          have hjn : j < S0 := by have := HRl.out; have := HS.out; omega
          obtain ⟨g, rfl, hg0, hg1⟩ := ho.at_ (by omega)
          have xcell := ho.cell hj
          have xfree := ho.free (j)
          have hst := ho.store (j) (UInt64.ofNat Bw)
          rw [Hfin.out, uval_ofNat hB64] at hst
          have Hst := Lib.hid hst
          simp only [uval] at xcell
          rw [hRx] at xcell
          have hx3d := hx3.setFar (a := ⟨g, j, none⟩) (by simp; omega) (.int .u64 (Bw : Int))
          have hx2d := hx2.setFar (a := ⟨g, j, none⟩) (by simp; omega) (.int .u64 (Bw : Int))
          have hbeld := hbel.setCell (p := ⟨g, j, none⟩) (by simp; omega) (.int .u64 (Bw : Int))
          clear hst ho hx3 hx2 hbel hRx
          go_wp2
          go_region
          go_wp2
          go_roundw
          case rel => exact ⟨k + 1, c', some ⟨g, 0, none⟩, by omega, by go_num, (by rw [← HS.out]; exact hx3d.drew), (by rw [← HS.out]; exact Hst.out), hx2d.drew, hbeld.drew, (by simp only [World.setCell, World.drew, Array.size_modify]; exact hs)⟩
          case measure => simp [intOf]; omega
    · obtain rfl : k = n := by omega
      obtain ⟨c20, c21⟩ := hx2.cell
      have f20 := hx2.free 0
      have f21 := hx2.free 1
      rw [List.take_of_length_le (by rw [Hl.out]; exact Nat.le_refl _)] at ho
      clear hx2 hx3
      obtain ⟨S, hS⟩ : ∃ S, S = Rst.need k := ⟨_, rfl⟩
      rw [← hS] at ho c31
      have HS := Lib.hid hS
      clear hS
      go_wp2
      have hone : ∀ u v, NOwn ((wr.setCell ⟨w.heap.size, 0, none⟩ u).setCell ⟨w.heap.size, 1, none⟩ v) w.heap.size A' S c' (Rst.pack l) := fun u v => ((ho.setFar (by simp; omega) u).setFar (by simp; omega) v).low (by omega)
      exact bodyPost_ret (v := rval (k : Int) A' S c') (by simp [results, Tryd.results24, go_sem, rval, c20, c21]) rfl
        ⟨A', c', (by rw [HS.out]), (by rw [← HS.out]; exact hone _ _), (hbel.setCell (by simp) _).setCell (by simp) _⟩
end Go.Proofs.YtggelnlbdpdegaaDoor
