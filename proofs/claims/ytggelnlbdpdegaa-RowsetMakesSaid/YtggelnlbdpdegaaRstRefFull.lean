/- The document's Full. -/
import Derived.Test.YtggelnlbdpdegaaRstRefOf
namespace Go.Proofs.Ytggelnlbdpdegaa
open Go.RowKit
set_option maxRecDepth 100000

/-- all rows -/
def fullR (N : Int) : (Int × List UInt64) × Nat := if 0 ≤ N ∧ N ≤ 4096 then ((N, Rst.pack (List.replicate N.toNat true)), 0) else ((0, []), 1)
theorem fullR_ok {m : Nat} (h : m ≤ 4096) : fullR (m : Int) = (((m : Int), Rst.pack (List.replicate m true)), 0) := by unfold fullR; rw [if_pos (by omega), Int.toNat_natCast]
theorem fullR_no {N : Int} (h : ¬ (0 ≤ N ∧ N ≤ 4096)) : fullR N = ((0, []), 1) := by unfold fullR; rw [if_neg h]
/-- Of without rows -/
theorem refOf_none (m : Nat) (hm : m ≤ 4096) (w : World) : Calls Try.prog 8 #[.int .i64 (m : Int), .slice none 0 0] w fun e w' =>
    ∃ A c, e = .returned (.tuple #[.agg #[.int .i64 (m : Int), .slice A (Rst.need m) c], .int .i64 0]) ∧ NOwn w' w.heap.size A (Rst.need m) c (Rst.pack (List.replicate m false)) ∧ Below w.heap.size w w' := by
  have h := refOf_any (m : Int) none 0 0 w.heap.size [] w rfl (by omega) (fun _ h => by cases h) (Row.nil _ _ _ _) (Nat.le_refl _)
  rw [Rst.ofR_ok hm rfl, Rst.ofL_nil] at h
  refine h.mono ?_
  rintro e w' ⟨A, c, rfl, ho, hb⟩
  have hl : (Rst.pack (List.replicate m false)).length = Rst.need m := by rw [Rst.pack_length, List.length_replicate]
  simp only [hl] at ho ⊢
  exact ⟨A, c, rfl, ho, hb⟩
theorem refOf_no (N : Int) (hN : ¬ (0 ≤ N ∧ N ≤ 4096)) (w : World) : Calls Try.prog 8 #[.int .i64 N, .slice none 0 0] w fun e w' =>
    ∃ A c, e = .returned (.tuple #[.agg #[.int .i64 0, .slice A 0 c], .int .i64 1]) ∧ Below w.heap.size w w' := by
  have h := refOf_any N none 0 0 w.heap.size [] w rfl (by omega) (fun _ h => by cases h) (Row.nil _ _ _ _) (Nat.le_refl _)
  rw [Rst.ofR_range hN] at h
  refine h.mono ?_
  rintro e w' ⟨A, c, rfl, ho, hb⟩
  exact ⟨A, c, rfl, hb⟩

set_option maxHeartbeats 1000000 in
theorem refFull_any (N : Int) (w : World) : Calls Try.prog 10 #[.int .i64 N] w (SetPost w (fullR N)) := by
  have hx2 := RBox.new w 0 none 0 0
  have hbel : Below w.heap.size w (w.alloc (.cells #[.int .i64 0, .slice none 0 0] 26)) := (Below.refl _ _).alloc (Nat.le_refl _) _
  have hsz : (w.alloc (.cells #[.int .i64 0, .slice none 0 0] 26)).heap.size = w.heap.size + 1 := by simp
  by_cases hN : 0 ≤ N ∧ N ≤ 4096
  · obtain ⟨m, rfl⟩ : ∃ m : Nat, N = m := ⟨N.toNat, by omega⟩
    have hm : m ≤ 4096 := by omega
    have HR := Lib.hid (fullR_ok hm)
    have C1 := Lib.hid (fun W => refOf_none m hm W)
    have hzl : (Rst.pack (List.replicate m false)).length = Rst.need m := by rw [Rst.pack_length, List.length_replicate]
    have C2 := fun A c B W hbW hBW => bits_any m A (Rst.need m) c B (Rst.pack (List.replicate m false)) W hm hzl rfl hbW hBW
    have hbp := Rst.bitsOf_pack (List.replicate m false)
    rw [List.length_replicate] at hbp
    rw [hbp] at C2
    replace C2 := Lib.hid C2
    have C3 := Lib.hid (fun A2 B2 W hbW hBW => set_any A2 m m B2 (List.replicate m true) W (List.length_replicate ..) hm hbW hBW)
    have HP := Lib.hid (show (Rst.pack (List.replicate m true)).length = Rst.need m by rw [Rst.pack_length, List.length_replicate])
    have HT := Lib.hid (List.length_replicate (n := m) (a := true))
    have HTg := Lib.hid (show ∀ k (h : k < (List.replicate m true).length), (List.replicate m true)[k] = true from fun k h => by simp)
    generalize fullR (m : Int) = R at *
    clear hN hbp hzl
    unfold rval at C2 C3
    generalize Rst.need m = S at *
    generalize List.replicate m true = T at *
    go_enter Try.func10, Try.ntmps10
    go_wp2_with fail
    generalize w.alloc (.cells #[.int .i64 0, .slice none 0 0] 26) = w1 at *
    refine (C1.out _).mono ?_
    rintro e w2 ⟨A2, c2, rfl, ho2, hb2⟩
    have hx2 := (hx2.below hb2 (by omega)).alloc (.cells #[.int .i64 (m : Int), .slice A2 S c2] 26)
    have hx4 := RBox.new w2 (m : Int) A2 S c2
    have hbel := (hbel.trans (hb2.mono (by omega))).alloc (by have := hb2.size; omega) (.cells #[.int .i64 (m : Int), .slice A2 S c2] 26)
    have hrow := (ho2.alloc (.cells #[.int .i64 (m : Int), .slice A2 S c2] 26)).row
    have hs2 := hb2.size
    clear C1 ho2 hb2
    obtain ⟨c40, c41⟩ := hx4.cell
    go_wp2_with fail
    generalize w2.alloc (.cells #[.int .i64 (m : Int), .slice A2 S c2] 26) = w3 at *
    refine (C2.out _ _ _ _ hrow (Nat.le_refl _)).mono ?_
    rintro e w4 ⟨g, rfl, ho, hb4⟩
    have hx2 := hx2.below hb4 hx2.lt
    have hs3 := hbel.size
    have hbel := hbel.trans (hb4.mono hs3)
    have hw3 : w.heap.size + 1 ≤ w3.heap.size := by have := hx2.lt; have := hx4.lt; omega
    have hg := ho.block
    clear C2 c40 c41 hx4 hrow hb4
    go_wp2
    go_loopw [7] (fun i wr => ∃ k : Nat, k ≤ m ∧ i = .int .i64 k ∧ BOwn wr w3.heap.size (some ⟨g, 0, none⟩) m m (T.take k ++ List.replicate (m - k) false) ∧ w4.grownBy wr (some g)) (fun i _ => m - (intOf i).toNat)
    case atStart => exact ⟨0, by omega, rfl, by simpa using ho, World.grownBy.refl _ _⟩
    case round =>
      clear ho
      obtain ⟨k, hk, rfl, ho, hgr⟩ := hrel
      have hx2r := hx2.grown hgr (by intro e; injection e with e; omega)
      have hbelr := hbel.grown hgr (by have := hbel.size; omega) (by intro j hj; injection hj with hj; omega)
      by_cases hlt : k < m
      · have hkl : k < (T.take k ++ List.replicate (m - k) false).length := by rw [ho.len]; exact hlt
        have hcell := ho.cell hkl
        have hfree := ho.free k
        have hTk : T[k]'(by rw [HT.out]; exact hlt) = true := HTg.out k _
        have hst := ho.store k (T[k]'(by rw [HT.out]; exact hlt))
        rw [fillU_set false HT.out hlt, hTk] at hst
        simp only [blval] at hcell hst
        have Hst := Lib.hid hst
        have Hg := Lib.hid (fun u => Lib.grownBy_setB hgr k u)
        generalize (T.take k ++ List.replicate (m - k) false)[k] = old at *
        clear hst ho hgr hkl hx2r hTk
        go_wp2
        go_roundw
        case rel => exact ⟨k + 1, by omega, by go_num, Hst.out, Hg.out _⟩
        case measure => simp [intOf]; omega
      · obtain rfl : k = m := by omega
        rw [Nat.sub_self, List.replicate_zero, List.append_nil, List.take_of_length_le (by rw [HT.out]; exact Nat.le_refl _)] at ho
        go_wp2_with fail
        refine (C3.out _ _ _ ho.row (Nat.le_refl _)).mono ?_
        rintro e w5 ⟨A5, c5, rfl, ho5, hb5⟩
        have hx2s := hx2r.below hb5 hx2r.lt
        have hszr := hbelr.size
        have hbels := hbelr.trans (hb5.mono hszr)
        have hwr : w.heap.size < wr.heap.size := hx2r.lt
        clear C3
        obtain ⟨c20, c21⟩ := hx2s.cell
        have f20 := hx2s.free 0
        have f21 := hx2s.free 1
        go_wp2
        have hone : ∀ u v, NOwn ((w5.setCell ⟨w.heap.size, 0, none⟩ u).setCell ⟨w.heap.size, 1, none⟩ v) w.heap.size A5 S c5 (Rst.pack T) := fun u v => ((ho5.setFar hwr u).setFar hwr v).low (by omega)
        exact bodyPost_ret (v := .tuple #[rval (k : Int) A5 S c5, .int .i64 0]) (by simp [results, Try.results10, go_sem, rval, c20, c21]) rfl
          (SetPost.yes HR.out HP.out (hone _ _) ((hbels.setCell (by simp) _).setCell (by simp) _))
  · have HR := Lib.hid (fullR_no hN)
    have C1 := Lib.hid (fun W => refOf_no N hN W)
    generalize fullR N = R at *
    clear hN
    go_enter Try.func10, Try.ntmps10
    go_wp2_with fail
    generalize w.alloc (.cells #[.int .i64 0, .slice none 0 0] 26) = w1 at *
    refine (C1.out _).mono ?_
    rintro e w2 ⟨A2, c2, rfl, hb2⟩
    have hx2 := (hx2.below hb2 (by omega)).alloc (.cells #[.int .i64 0, .slice A2 0 c2] 26)
    have hbel := (hbel.trans (hb2.mono (by omega))).alloc (by have := hb2.size; omega) (.cells #[.int .i64 0, .slice A2 0 c2] 26)
    obtain ⟨c20, c21⟩ := hx2.cell
    have f20 := hx2.free 0
    have f21 := hx2.free 1
    clear C1 hb2
    go_wp2
    exact bodyPost_ret (v := .tuple #[rval 0 none 0 0, .int .i64 1]) (by simp [results, Try.results10, go_sem, rval, c20, c21]) rfl
      (SetPost.no HR.out ((hbel.setCell (by simp) _).setCell (by simp) _))
end Go.Proofs.Ytggelnlbdpdegaa
