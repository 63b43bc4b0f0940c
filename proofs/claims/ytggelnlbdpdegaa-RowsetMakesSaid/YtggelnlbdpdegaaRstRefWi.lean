/- The document's Within. -/
import Derived.Test.YtggelnlbdpdegaaRstRefFull
namespace Go.Proofs.Ytggelnlbdpdegaa
open Go.RowKit
set_option maxRecDepth 100000

set_option maxHeartbeats 2000000 in
theorem refWithin_any (N : Int) (A : Option Addr) (n cap B : Nat) (l : List Int) (w : World) (hl : l.length = n) (hn : n ≤ 140737488351232) (hf : Fits64 l) (hb : Ints w B A l) (hB : B ≤ w.heap.size) :
    Calls Try.prog 12 #[.int .i64 N, .slice A n cap] w (SetPost w (Rst.wiR N l)) := by
  have hx2 := RBox.new w 0 none 0 0
  have hbel : Below w.heap.size w (w.alloc (.cells #[.int .i64 0, .slice none 0 0] 26)) := (Below.refl _ _).alloc (Nat.le_refl _) _
  have hsz : (w.alloc (.cells #[.int .i64 0, .slice none 0 0] 26)).heap.size = w.heap.size + 1 := by simp
  have hb := hb.below (hbel.mono hB)
  by_cases hN : 0 ≤ N ∧ N ≤ 4096
  · obtain ⟨m, rfl⟩ : ∃ m : Nat, N = m := ⟨N.toNat, by omega⟩
    have hm : m ≤ 4096 := by omega
    have C1 := Lib.hid (fun W => refOf_none m hm W)
    have hzl : (Rst.pack (List.replicate m false)).length = Rst.need m := by rw [Rst.pack_length, List.length_replicate]
    have C2 := fun A c B W hbW hBW => bits_any m A (Rst.need m) c B (Rst.pack (List.replicate m false)) W hm hzl rfl hbW hBW
    have hbp := Rst.bitsOf_pack (List.replicate m false)
    rw [List.length_replicate] at hbp
    have hbw := hbp.trans (Rst.withinL_nil m).symm
    rw [hbw] at C2
    replace C2 := Lib.hid C2
    have C3 := Lib.hid (fun A2 B2 W hbW hBW => set_any A2 m m B2 (Rst.withinL m l) W (Rst.withinL_length m l) hm hbW hBW)
    have HP := Lib.hid (show (Rst.pack (Rst.withinL m l)).length = Rst.need m by rw [Rst.pack_length, Rst.withinL_length])
    have Hok := Lib.hid (fun h => Rst.wiR_ok (l := l) hm h)
    have Hbad := Lib.hid (fun h => Rst.wiR_bad (n := m) (l := l) h)
    have Hl := Lib.hid hl
    have HF := Lib.hid hf
    generalize Rst.wiR (m : Int) l = R at *
    clear hN hbp hbw hzl hl hf
    unfold rval at C2 C3
    generalize Rst.need m = S at *
    go_enter Try.func12, Try.ntmps12
    go_wp2_with fail
    generalize w.alloc (.cells #[.int .i64 0, .slice none 0 0] 26) = w1 at *
    refine (C1.out _).mono ?_
    rintro e w2 ⟨A2, c2, rfl, ho2, hb2⟩
    have hx2 := (hx2.below hb2 (by omega)).alloc (.cells #[.int .i64 (m : Int), .slice A2 S c2] 26)
    have hx4 := RBox.new w2 (m : Int) A2 S c2
    have hbel := (hbel.trans (hb2.mono (by omega))).alloc (by have := hb2.size; omega) (.cells #[.int .i64 (m : Int), .slice A2 S c2] 26)
    have hrow := (ho2.alloc (.cells #[.int .i64 (m : Int), .slice A2 S c2] 26)).row
    have hs2 := hb2.size
    have hb : Ints (w2.alloc (.cells #[.int .i64 (m : Int), .slice A2 S c2] 26)) B A l := (hb.below (hb2.mono (by omega))).below (((Below.refl _ _).alloc (Nat.le_refl _) _).mono (by omega))
    clear C1 ho2 hb2
    obtain ⟨c40, c41⟩ := hx4.cell
    go_wp2_with fail
    generalize w2.alloc (.cells #[.int .i64 (m : Int), .slice A2 S c2] 26) = w3 at *
    refine (C2.out _ _ _ _ hrow (Nat.le_refl _)).mono ?_
    rintro e w4 ⟨g, rfl, ho, hb4⟩
    have hw3 : w.heap.size + 1 ≤ w3.heap.size := by have := hx2.lt; have := hx4.lt; omega
    have hb := hb.below (hb4.mono (by omega))
    have hx2 := hx2.below hb4 hx2.lt
    have hs3 := hbel.size
    have hbel := hbel.trans (hb4.mono hs3)
    have hg := ho.block
    clear C2 c40 c41 hx4 hrow hb4
    go_wp2
    go_loopw [9] (fun i wr => ∃ k : Nat, k ≤ n ∧ i = .int .i64 k ∧ BOwn wr w3.heap.size (some ⟨g, 0, none⟩) m m (Rst.withinL m (l.take k)) ∧ (l.take k).all (Rst.okGran m) = true ∧ w4.grownBy wr (some g)) (fun i _ => n - (intOf i).toNat)
    case atStart => exact ⟨0, by omega, rfl, ho, rfl, World.grownBy.refl _ _⟩
    case round =>
      clear ho
      obtain ⟨k, hk, rfl, ho, hall, hgr⟩ := hrel
      have hx2r := hx2.grown hgr (by intro e; injection e with e; omega)
      have hbelr := hbel.grown hgr (by have := hbel.size; omega) (by intro j hj; injection hj with hj; omega)
      obtain ⟨c20, c21⟩ := hx2r.cell
      have f20 := hx2r.free 0
      have f21 := hx2r.free 1
      have Hall := Lib.hid hall
      clear hall
      by_cases hlt : k < n
      · have hk' : k < l.length := by have := Hl.out; omega
        have hbr := hb.keep (w' := wr) (fun p hp => hgr.cell_far p (by have := hbel.size; omega) (by intro e; injection e with e; omega))
        obtain ⟨ad, rfl, hadB, hcell⟩ := hbr.get hk'
        simp only [ival] at hcell
        have hfit := HF.out l[k] (List.getElem_mem hk')
        have Hb := Lib.hid (fun h => Hbad.out (Rst.all_bad (p := Rst.okGran m) hk' h))
        have Ht := Lib.hid (fun h => Rst.take_all (p := Rst.okGran m) hk' Hall.out h)
        have Htk := Lib.hid (List.take_succ_eq_append_getElem hk')
        generalize l[k] = r at *
        by_cases h0 : 0 ≤ r
        · by_cases h255 : r ≤ 255
          · by_cases hr : 16 * r < (m : Int)
            · obtain ⟨q, rfl⟩ : ∃ q : Nat, r = q := ⟨r.toNat, by omega⟩
              obtain ⟨F, hF⟩ : ∃ F, F = 16 * q := ⟨_, rfl⟩
              have hq16 : (16 : Int) * (q : Int) = (F : Int) := by omega
              have hFm : F < m := by omega
              have hd1 : decide (m ≤ F) = false := decide_eq_false (by omega)
              have hd2 : decide ((q : Int) < 0) = false := decide_eq_false (by omega)
              have hd3 : decide (255 < (q : Int)) = false := decide_eq_false (by omega)
              have Hall' := Lib.hid (Ht.out (by unfold Rst.okGran; rw [decide_eq_true h0, decide_eq_true hr]; rfl))
              have HF2 := Lib.hid hF
              clear Hb Ht hfit hr hF
              go_wp2
              go_loopw [11] (fun i w5 => ∃ j : Nat, j ≤ 16 ∧ i = .int .i64 ((F + j : Nat) : Int) ∧ BOwn w5 w3.heap.size (some ⟨g, 0, none⟩) m m (Rst.part m (l.take k) q j) ∧ w4.grownBy w5 (some g)) (fun i _ => 5000 - (intOf i).toNat)
              case atStart => exact ⟨0, by omega, by go_num, by rw [Rst.part_zero]; exact ho, hgr⟩
              case round =>
                obtain ⟨j, hj, rfl, ho5, hg5⟩ := hrel
                by_cases hin : j < 16 ∧ F + j < m
                · obtain ⟨hj16, hjm⟩ := hin
                  have hq' : F + j < (Rst.part m (l.take k) q j).length := by rw [Rst.part_length]; exact hjm
                  have hold := ho5.cell hq'
                  have hfree := ho5.free (F + j)
                  have hst := ho5.store (F + j) true
                  rw [show (Rst.part m (l.take k) q j).set (F + j) true = Rst.part m (l.take k) q (j + 1) by rw [HF2.out]; exact Rst.part_succ _ hj16] at hst
                  simp only [blval] at hold hst
                  generalize (Rst.part m (l.take k) q j)[F + j] = old at *
                  have Hst := Lib.hid hst
                  have Hg := Lib.hid (fun u => Lib.grownBy_setB hg5 (F + j) u)
                  clear hst ho5 hg5 hq' ho
                  obtain ⟨z, hz⟩ : ∃ z, z = F + j := ⟨_, rfl⟩
                  rw [← hz] at hold hfree Hst Hg ⊢
                  have hzm : z < m := by omega
                  have hz16 : (z : Int) < (F : Int) + 16 := by omega
                  have HZ := Lib.hid hz
                  clear hz
                  go_wp2
                  go_roundw
                  case rel => exact ⟨j + 1, by omega, congrArg (Value.int .i64) (by have := HZ.out; omega), Hst.out, Hg.out _⟩
                  case measure => simp [intOf]; omega
                · have hpe := Rst.part_end (n := m) (g := q) (j := j) (l.take k) (by have := HF2.out; omega)
                  rw [hpe, ← Htk.out] at ho5
                  clear hpe ho
                  obtain ⟨z, hz⟩ : ∃ z, z = F + j := ⟨_, rfl⟩
                  rw [← hz]
                  by_cases hzm : z < m
                  · have hz16 : ¬ (z : Int) < (F : Int) + 16 := by omega
                    clear hz hin
                    go_wp2
                    go_roundw
                    case rel => exact ⟨k + 1, by omega, by go_num, ho5, Hall'.out, hg5⟩
                    case measure => simp [intOf]; omega
                  · clear hz hin
                    go_wp2
                    go_roundw
                    case rel => exact ⟨k + 1, by omega, by go_num, ho5, Hall'.out, hg5⟩
                    case measure => simp [intOf]; omega
            · have HR := Lib.hid (Hb.out (by unfold Rst.okGran; rw [decide_eq_false hr, Bool.and_false]))
              clear ho Hb Ht Htk
              go_wp2
              exact bodyPost_ret (v := .tuple #[rval 0 none 0 0, .int .i64 1]) (by simp [results, Try.results12, go_sem, rval, c20, c21]) rfl
                (SetPost.no HR.out ((hbelr.setCell (by simp) _).setCell (by simp) _))
          · have HR := Lib.hid (Hb.out (by unfold Rst.okGran; rw [decide_eq_false (show ¬ 16 * r < (m : Int) by omega), Bool.and_false]))
            clear ho Hb Ht Htk
            go_wp2
            exact bodyPost_ret (v := .tuple #[rval 0 none 0 0, .int .i64 1]) (by simp [results, Try.results12, go_sem, rval, c20, c21]) rfl
              (SetPost.no HR.out ((hbelr.setCell (by simp) _).setCell (by simp) _))
        · have HR := Lib.hid (Hb.out (by unfold Rst.okGran; rw [decide_eq_false h0, Bool.false_and]))
          clear ho Hb Ht Htk
          go_wp2
          exact bodyPost_ret (v := .tuple #[rval 0 none 0 0, .int .i64 1]) (by simp [results, Try.results12, go_sem, rval, c20, c21]) rfl
            (SetPost.no HR.out ((hbelr.setCell (by simp) _).setCell (by simp) _))
      · obtain rfl : k = n := by omega
        have hall := Hall.out
        rw [List.take_of_length_le (by rw [Hl.out]; exact Nat.le_refl _)] at ho hall
        have HR := Lib.hid (Hok.out hall)
        clear hall
        go_wp2_with fail
        refine (C3.out _ _ _ ho.row (Nat.le_refl _)).mono ?_
        rintro e w5 ⟨A5, c5, rfl, ho5, hb5⟩
        have hx2s := hx2r.below hb5 hx2r.lt
        have hszr := hbelr.size
        have hbels := hbelr.trans (hb5.mono hszr)
        have hwr : w.heap.size < wr.heap.size := hx2r.lt
        clear C3 c20 c21 f20 f21
        obtain ⟨c20, c21⟩ := hx2s.cell
        have f20 := hx2s.free 0
        have f21 := hx2s.free 1
        go_wp2
        have hone : ∀ u v, NOwn ((w5.setCell ⟨w.heap.size, 0, none⟩ u).setCell ⟨w.heap.size, 1, none⟩ v) w.heap.size A5 S c5 (Rst.pack (Rst.withinL m l)) := fun u v => ((ho5.setFar hwr u).setFar hwr v).low (by omega)
        exact bodyPost_ret (v := .tuple #[rval (m : Int) A5 S c5, .int .i64 0]) (by simp [results, Try.results12, go_sem, rval, c20, c21]) rfl
          (SetPost.yes HR.out HP.out (hone _ _) ((hbels.setCell (by simp) _).setCell (by simp) _))
  · have HR := Lib.hid (Rst.wiR_range (N := N) (l := l) hN)
    have C1 := Lib.hid (fun W => refOf_no N hN W)
    generalize Rst.wiR N l = R at *
    clear hN hb hl hf
    go_enter Try.func12, Try.ntmps12
    go_wp2_with fail
    generalize w.alloc (.cells #[.int .i64 0, .slice none 0 0] 26) = w1 at *
    refine (C1.out _).mono ?_
    rintro e w2 ⟨A2, c2, rfl, hb2⟩
    have hx2 := (hx2.below hb2 (by omega)).alloc (.cells #[.int .i64 0, .slice A2 0 c2] 26)
    have hbel := (hbel.trans (hb2.mono (by omega))).alloc (by have := hb2.size; omega) (.cells #[.int .i64 0, .slice A2 0 c2] 26)
    obtain ⟨c20, c21⟩ := hx2.cell
    have f20 := hx2.free 0
    have f21 := hx2.free 1
    clear C1 hb2
    go_wp2
    exact bodyPost_ret (v := .tuple #[rval 0 none 0 0, .int .i64 1]) (by simp [results, Try.results12, go_sem, rval, c20, c21]) rfl
      (SetPost.no HR.out ((hbel.setCell (by simp) _).setCell (by simp) _))
end Go.Proofs.Ytggelnlbdpdegaa
