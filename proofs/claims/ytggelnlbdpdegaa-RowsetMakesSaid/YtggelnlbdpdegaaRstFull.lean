/- rowset.Full. -/
import Derived.Test.YtggelnlbdpdegaaRstRefFull
namespace Go.Proofs.Ytggelnlbdpdegaa
open Go.RowKit
set_option maxRecDepth 100000

theorem full_lay (n : Nat) : (Rst.pack (List.replicate n true)).length = Rst.need n := by rw [Rst.pack_length, List.length_replicate]
theorem shr_ones (s : Nat) : (18446744073709551615 : Int) / 2 ^ s = ((18446744073709551615 / 2 ^ s : Nat) : Int) := by rw [Int.natCast_ediv, Int.natCast_pow]; rfl
set_option maxHeartbeats 1000000 in
theorem full_any (N : Int) (w : World) : Calls Try.prog 9 #[.int .i64 N] w (SetPost w (fullR N)) := by
  have hx2 := RBox.new w 0 none 0 0
  have hbel : Below w.heap.size w (w.alloc (.cells #[.int .i64 0, .slice none 0 0] 26)) := (Below.refl _ _).alloc (Nat.le_refl _) _
  have hsz : (w.alloc (.cells #[.int .i64 0, .slice none 0 0] 26)).heap.size = w.heap.size + 1 := by simp
  have H1 := Lib.hid (fun W => isSize_any N W)
  by_cases hN : 0 ≤ N ∧ N ≤ 4096
  · rw [decide_eq_true hN] at H1
    obtain ⟨m, rfl⟩ : ∃ m : Nat, N = m := ⟨N.toNat, by omega⟩
    have hm : m ≤ 4096 := by omega
    have HR := Lib.hid (fullR_ok hm)
    have H2 := Lib.hid (fun W => empty_any m W hm)
    have HP := Lib.hid (full_lay m)
    have HW := Lib.hid (fun h => Rst.full_whole (n := m) h)
    have HPt := Lib.hid (fun h => Rst.full_part (n := m) h)
    have hk := need_le hm
    have hS0 : m % 64 ≠ 0 → 0 < Rst.need m := by intro h; unfold Rst.need; omega
    have HT := Lib.hid (List.length_replicate (n := Rst.need m) (a := Rst.ones))
    have HTg := Lib.hid (show ∀ k (h : k < (List.replicate (Rst.need m) Rst.ones).length), (List.replicate (Rst.need m) Rst.ones)[k] = Rst.ones from fun k h => by simp)
    have hov : uval Rst.ones = .int .u64 18446744073709551615 := uval_ofNat (by decide)
    have Hov := Lib.hid hov
    generalize fullR (m : Int) = R at *
    clear hN hov
    generalize Rst.need m = S at *
    generalize List.replicate S Rst.ones = T at *
    generalize Rst.pack (List.replicate m true) = F at *
    go_enter Try.func9, Try.ntmps9
    go_wp2_with fail
    generalize w.alloc (.cells #[.int .i64 0, .slice none 0 0] 26) = w1 at *
    refine (H1.out _).mono ?_
    rintro e w1' ⟨rfl, rfl⟩
    clear H1
    go_wp2_with fail
    refine (H2.out _).mono ?_
    rintro e w2 ⟨g, rfl, ho, hb2⟩
    unfold rval
    clear H2
    have hg := ho.block
    rw [hsz] at ho hb2 hg
    have hx2 := (hx2.below hb2 (by omega)).alloc (.cells #[.int .i64 (m : Int), .slice (some ⟨g, 0, none⟩) S S] 26)
    have hx4 := RBox.new w2 (m : Int) (some ⟨g, 0, none⟩) S S
    have hbel := (hbel.trans (hb2.mono (by omega))).alloc (by have := hb2.size; omega) (.cells #[.int .i64 (m : Int), .slice (some ⟨g, 0, none⟩) S S] 26)
    have ho := ho.alloc (.cells #[.int .i64 (m : Int), .slice (some ⟨g, 0, none⟩) S S] 26)
    obtain ⟨c40, c41⟩ := hx4.cell
    obtain ⟨b4, hb4⟩ : ∃ b, b = w2.heap.size := ⟨_, rfl⟩
    rw [← hb4] at hx4 hg c40 c41
    have HB4 := Lib.hid hb4
    clear hb2 hb4
    go_wp2
    generalize w2.alloc (.cells #[.int .i64 (m : Int), .slice (some ⟨g, 0, none⟩) S S] 26) = w3 at *
    rw [← HB4.out]
    clear c40 c41
    go_loopw [16] (fun i wr => ∃ k : Nat, k ≤ S ∧ i = .int .i64 k ∧ NOwn wr (w.heap.size + 1) (some ⟨g, 0, none⟩) S S (T.take k ++ List.replicate (S - k) 0) ∧ w3.grownBy wr (some g)) (fun i _ => S - (intOf i).toNat)
    case atStart => exact ⟨0, by omega, rfl, by simpa using ho, World.grownBy.refl _ _⟩
    case round =>
      clear ho
      obtain ⟨k, hk2, rfl, ho, hgr⟩ := hrel
      have hx2r := hx2.grown hgr (by intro e; injection e with e; omega)
      have hx4r := hx4.grown hgr (by intro e; injection e with e; omega)
      have hbelr := hbel.grown hgr (by have := hbel.size; omega) (by intro j hj; injection hj with hj; omega)
      obtain ⟨c40, c41⟩ := hx4r.cell
      by_cases hlt : k < S
      · have hkl : k < (T.take k ++ List.replicate (S - k) 0).length := by rw [ho.len]; exact hlt
        have hcell := ho.cell hkl
        have hfree := ho.free k
        have hTk : T[k]'(by rw [HT.out]; exact hlt) = Rst.ones := HTg.out k _
        have hst := ho.store k (T[k]'(by rw [HT.out]; exact hlt))
        rw [fillU_set 0 HT.out hlt, hTk, Hov.out] at hst
        have Hst := Lib.hid hst
        have Hg := Lib.hid (fun u => Lib.grownBy_setB hgr k u)
        generalize uval (T.take k ++ List.replicate (S - k) 0)[k] = old at *
        clear hst ho hgr hkl hTk hx2r hx4r hbelr
        go_wp2
        go_roundw
        case rel => exact ⟨k + 1, by omega, by go_num, Hst.out, Hg.out _⟩
        case measure => simp [intOf]; omega
      · obtain rfl : k = S := by omega
        rw [Nat.sub_self, List.replicate_zero, List.append_nil, List.take_of_length_le (by rw [HT.out]; exact Nat.le_refl _)] at ho
        have hrem : (m : Int) % 64 = ((m % 64 : Nat) : Int) := by omega
        have hs64 : m % 64 < 64 := by omega
        by_cases h0 : m % 64 = 0
        · have hrem0 : (m : Int) % 64 = 0 := by omega
          rw [HW.out h0] at ho
          obtain ⟨c20, c21⟩ := hx2r.cell
          have f20 := hx2r.free 0
          have f21 := hx2r.free 1
          clear hrem h0 hx2 hx4 hx2r hx4r HPt HW HTg HT hS0
          go_wp2
          have hone : ∀ u v, NOwn ((wr.setCell ⟨w.heap.size, 0, none⟩ u).setCell ⟨w.heap.size, 1, none⟩ v) w.heap.size (some ⟨g, 0, none⟩) k k F := fun u v => ((ho.setFar (by simp) u).setFar (by simp) v).low (by omega)
          exact bodyPost_ret (v := .tuple #[rval (m : Int) (some ⟨g, 0, none⟩) k k, .int .i64 0]) (by simp [results, Try.results9, go_sem, rval, c20, c21]) rfl
            (SetPost.yes HR.out HP.out (hone _ _) ((hbelr.setCell (by simp) _).setCell (by simp) _))
        · have hk0 : 0 < k := hS0 h0
          have hne : ((m : Int) % 64 != 0) = true := bne_iff_ne.2 (by omega)
          obtain ⟨j, rfl⟩ : ∃ j, k = j + 1 := ⟨k - 1, by omega⟩
          have hPt := HPt.out h0
          rw [Nat.add_sub_cancel] at hPt
          have hkl : j < T.length := by rw [HT.out]; omega
          have hcell := ho.cell hkl
          have hfree := ho.free j
          have hlt64 : 18446744073709551615 / 2 ^ (64 - m % 64) < 18446744073709551616 := Nat.lt_of_le_of_lt (Nat.div_le_self _ _) (by decide)
          have hshr := shr_ones (64 - m % 64)
          have hst := ho.store j (UInt64.ofNat (18446744073709551615 / 2 ^ (64 - m % 64)))
          rw [hPt, uval_ofNat hlt64] at hst
          generalize (18446744073709551615 / 2 ^ (64 - m % 64) : Nat) = v at *
          obtain ⟨s, hs⟩ : ∃ s, s = m % 64 := ⟨_, rfl⟩
          rw [← hs] at hrem hshr hs64
          have hs0 : 0 < s := by omega
          generalize uval T[j] = old at *
          have hx2d := hx2r.setFar (a := ⟨g, j, none⟩) (by simp; omega) (.int .u64 (v : Int))
          have hbeld := (hbelr.setCell (p := ⟨g, j, none⟩) (by simp; omega) (.int .u64 (v : Int)))
          have hx4d := hx4r.setFar (a := ⟨g, j, none⟩) (by simp; omega) (.int .u64 (v : Int))
          obtain ⟨e20, e21⟩ := hx2d.cell
          obtain ⟨d40, d41⟩ := hx4d.cell
          have f20 := hx2d.free 0
          have f21 := hx2d.free 1
          have Hst := Lib.hid hst
          have hwi : IntKind.i64.wrap ((64 : Int) - (s : Int)) = ((64 - s : Nat) : Int) := by rw [IntKind.wrap_i64]; omega
          have hwj : IntKind.i64.wrap (((j + 1 : Nat) : Int) - 1) = (j : Int) := by rw [IntKind.wrap_i64]; omega
          clear hs h0 hPt hst ho hx2 hx4 hx2r hx4r HPt HW HTg HT hS0
          go_wp2
          go_region
          go_wp2
          have hone : ∀ u v', NOwn (((wr.setCell ⟨g, j, none⟩ (.int .u64 (v : Int))).setCell ⟨w.heap.size, 0, none⟩ u).setCell ⟨w.heap.size, 1, none⟩ v').drew w.heap.size (some ⟨g, 0, none⟩) (j + 1) (j + 1) F := fun u v' => ((ROwn.setFar (by exact Hst.out) (by simp) u).setFar (by simp) v').low (by omega)
          exact bodyPost_ret (v := .tuple #[rval (m : Int) (some ⟨g, 0, none⟩) (j + 1) (j + 1), .int .i64 0]) (by simp [results, Try.results9, go_sem, rval, e20, e21]) rfl
            (SetPost.yes HR.out HP.out (hone _ _) ((hbeld.setCell (by simp) _).setCell (by simp) _).drew)
  · rw [decide_eq_false hN] at H1
    have HR := Lib.hid (fullR_no hN)
    generalize fullR N = R at *
    clear hN hsz hx2
    go_enter Try.func9, Try.ntmps9
    go_wp2_with fail
    refine (H1.out _).mono ?_
    rintro e w1 ⟨rfl, rfl⟩
    clear H1
    go_wp2
    exact bodyPost_ret (v := .tuple #[rval 0 none 0 0, .int .i64 1]) (by simp [results, Try.results9, go_sem, rval]) rfl
      (SetPost.no HR.out ((Below.refl _ _).alloc (Nat.le_refl _) _))
end Go.Proofs.Ytggelnlbdpdegaa
