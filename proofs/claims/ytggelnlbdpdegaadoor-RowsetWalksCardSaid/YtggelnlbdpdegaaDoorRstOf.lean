/- rowset.Of. -/
import Derived.Test.YtggelnlbdpdegaaDoorRBox
namespace Go.Proofs.YtggelnlbdpdegaaDoor
open Go.RowKit
set_option maxRecDepth 100000

set_option maxHeartbeats 1000000 in
theorem of_any (N : Int) (A : Option Addr) (n cap B : Nat) (l : List Int) (w : World) (hl : l.length = n) (hn : n ≤ 140737488351232) (hf : Fits64 l) (hb : Ints w B A l) (hB : B ≤ w.heap.size) :
    Calls Tryd.prog 20 #[.int .i64 N, .slice A n cap] w (SetPost w (Rst.ofR N l)) := by
  have H1 := Lib.hid (fun W => isSize_any N W)
  by_cases h1 : 0 ≤ N ∧ N ≤ 4096
  · rw [decide_eq_true h1] at H1
    obtain ⟨m, rfl⟩ : ∃ m : Nat, N = m := ⟨N.toNat, by omega⟩
    have hm : m ≤ 4096 := by omega
    have H2 := Lib.hid (fun W => empty_any m W hm)
    have Hl := Lib.hid hl
    have Hz := Lib.hid (Rst.pack_zeros m)
    have Hok := Lib.hid (fun h => Rst.ofR_ok (l := l) hm h)
    have Hbad := Lib.hid (fun h => Rst.ofR_bad (n := m) (l := l) h)
    generalize Rst.ofR (m : Int) l = R at *
    clear h1 hl
    have HF := Lib.hid hf
    clear hf
    go_enter Tryd.func20, Tryd.ntmps20
    go_wp2_with fail
    refine (H1.out _).mono ?_
    rintro e w1 ⟨rfl, rfl⟩
    clear H1
    have hbA : Below w.heap.size w (w.alloc (.cells #[.int .i64 0, .slice none 0 0] 24)) := (Below.refl _ _).alloc (Nat.le_refl _) _
    go_wp2_with fail
    refine (H2.out _).mono ?_
    rintro e w2 ⟨g, rfl, ho, hb2⟩
    unfold rval
    clear H2
    rw [← Hz.out, ← Rst.ofL_nil] at ho
    have hx4 := RBox.new w 0 none 0 0
    have hsz : (w.alloc (.cells #[.int .i64 0, .slice none 0 0] 24)).heap.size = w.heap.size + 1 := by simp
    rw [hsz] at ho hb2
    have hsz2 := hb2.size
    have hg := ho.block
    have hx4 := (hx4.below hb2 (by omega)).alloc (.cells #[.int .i64 (m : Int), .slice (some ⟨g, 0, none⟩) (Rst.need m) (Rst.need m)] 24)
    have hx6 := RBox.new w2 (m : Int) (some ⟨g, 0, none⟩) (Rst.need m) (Rst.need m)
    have hbel := (hbA.trans (hb2.mono (by omega))).alloc (by omega) (.cells #[.int .i64 (m : Int), .slice (some ⟨g, 0, none⟩) (Rst.need m) (Rst.need m)] 24)
    have ho := ho.alloc (.cells #[.int .i64 (m : Int), .slice (some ⟨g, 0, none⟩) (Rst.need m) (Rst.need m)] 24)
    have hbx := hb.below (hbel.mono hB)
    obtain ⟨b6, hb6⟩ : ∃ b6, b6 = w2.heap.size := ⟨_, rfl⟩
    have hS := Lib.hid (show Rst.need m = (Rst.pack (Rst.ofL m l)).length by rw [Rst.pack_length, Rst.ofL_length])
    generalize Rst.need m = S at *
    go_wp2
    generalize w2.alloc (.cells #[.int .i64 (m : Int), .slice (some ⟨g, 0, none⟩) S S] 24) = w3 at *
    rw [← hb6] at hx6 hg hsz2 ⊢
    clear hb6 hb2 hbA hsz hb
    go_loopw [17] (fun i wr => ∃ k : Nat, k ≤ n ∧ i = .int .i64 k ∧ NOwn wr (w.heap.size + 1) (some ⟨g, 0, none⟩) S S (Rst.pack (Rst.ofL m (l.take k))) ∧ (l.take k).all (Rst.okRow m) = true ∧ w3.grownBy wr (some g)) (fun i _ => n - (intOf i).toNat)
    case atStart => exact ⟨0, by omega, rfl, ho, rfl, World.grownBy.refl _ _⟩
    case round =>
      clear ho
      obtain ⟨k, hk, rfl, ho, hall, hgr⟩ := hrel
      have hx4r := hx4.grown hgr (by intro e; injection e with e; omega)
      have hx6r := hx6.grown hgr (by intro e; injection e with e; omega)
      have hbelr := hbel.grown hgr (by have := hbel.size; omega) (by intro j hj; injection hj with hj; omega)
      obtain ⟨c40, c41⟩ := hx4r.cell
      obtain ⟨c60, c61⟩ := hx6r.cell
      have f40 := hx4r.free 0
      have f41 := hx4r.free 1
      have Hall := Lib.hid hall
      have HX4 := Lib.hid hx4
      have HX6 := Lib.hid hx6
      clear hx4 hx6 hx4r hx6r hall
      by_cases hlt : k < n
      · have hk' : k < l.length := by have := Hl.out; omega
        have hbr := hbx.keep (w' := wr) (fun p hp => hgr.cell_far p (by have := hbel.size; omega) (by intro e; injection e with e; omega))
        obtain ⟨ad, rfl, hadB, hcell⟩ := hbr.get hk'
        simp only [ival] at hcell
        have hfit := HF.out l[k] (List.getElem_mem hk')
        have Hb := Lib.hid (fun h => Hbad.out (Rst.all_bad (p := Rst.okRow m) hk' h))
        have Ht := Lib.hid (fun h => Rst.take_all (p := Rst.okRow m) hk' Hall.out h)
        have Htk := Lib.hid (List.take_succ_eq_append_getElem hk')
        generalize l[k] = r at *
        by_cases h0 : 0 ≤ r
        · by_cases hr : r < (m : Int)
          · obtain ⟨q, rfl⟩ : ∃ q : Nat, r = q := ⟨r.toNat, by omega⟩
            have hq : q < (Rst.ofL m (l.take k)).length := by rw [Rst.ofL_length]; omega
            have HA := add_any (m : Int) g S S (w.heap.size + 1) q _ wr ho hq (by rw [Rst.ofL_length]; omega)
            rw [Rst.ofL_snoc _ (by omega), ← Htk.out] at HA
            replace HA := Lib.hid HA
            unfold rval at HA
            have Hall' := Lib.hid (Ht.out (by unfold Rst.okRow; rw [decide_eq_true h0, decide_eq_true hr]; rfl))
            clear ho hq Hb Ht Htk hfit
            go_wp2_with fail
            refine HA.out.mono ?_
            rintro e w4 ⟨rfl, ho4, hg4⟩
            clear HA
            go_wp2
            go_roundw
            case rel => exact ⟨k + 1, by omega, by go_num, ho4, Hall'.out, hgr.trans hg4⟩
            case measure => simp [intOf]; omega
          · have HR := Lib.hid (Hb.out (by unfold Rst.okRow; rw [decide_eq_false hr, Bool.and_false]))
            clear ho Hb Ht Htk
            go_wp2
            exact bodyPost_ret (v := .tuple #[rval 0 none 0 0, .int .i64 1]) (by simp [results, Tryd.results20, go_sem, rval, c40, c41]) rfl
              (SetPost.no HR.out ((hbelr.setCell (by simp) _).setCell (by simp) _))
        · have HR := Lib.hid (Hb.out (by unfold Rst.okRow; rw [decide_eq_false h0, Bool.false_and]))
          clear ho Hb Ht Htk
          go_wp2
          exact bodyPost_ret (v := .tuple #[rval 0 none 0 0, .int .i64 1]) (by simp [results, Tryd.results20, go_sem, rval, c40, c41]) rfl
            (SetPost.no HR.out ((hbelr.setCell (by simp) _).setCell (by simp) _))
      · obtain rfl : k = n := by omega
        have hall := Hall.out
        rw [List.take_of_length_le (by rw [Hl.out]; exact Nat.le_refl _)] at ho hall
        have HR := Lib.hid (Hok.out hall)
        have HS := Lib.hid hS.out
        clear hall
        go_wp2
        have hone : ∀ u v, NOwn ((wr.setCell ⟨w.heap.size, 0, none⟩ u).setCell ⟨w.heap.size, 1, none⟩ v) w.heap.size (some ⟨g, 0, none⟩) S S (Rst.pack (Rst.ofL m l)) := fun u v => ((ho.setFar (by simp) u).setFar (by simp) v).low (by omega)
        exact bodyPost_ret (v := .tuple #[rval (m : Int) (some ⟨g, 0, none⟩) S S, .int .i64 0]) (by simp [results, Tryd.results20, go_sem, rval, c40, c41]) rfl
          (SetPost.yes HR.out hS.out.symm (hone _ _) ((hbelr.setCell (by simp) _).setCell (by simp) _))
  · rw [decide_eq_false h1] at H1
    have hR := Rst.ofR_range (l := l) h1
    have HR := Lib.hid hR
    clear hR h1 hb hl hf
    generalize Rst.ofR N l = R at *
    go_enter Tryd.func20, Tryd.ntmps20
    go_wp2_with fail
    refine (H1.out _).mono ?_
    rintro e w1 ⟨rfl, rfl⟩
    clear H1
    go_wp2
    exact bodyPost_ret (v := .tuple #[rval 0 none 0 0, .int .i64 1]) (by simp [results, Tryd.results20, go_sem, rval]) rfl
      (SetPost.no HR.out ((Below.refl _ _).alloc (Nat.le_refl _) _))
end Go.Proofs.YtggelnlbdpdegaaDoor
