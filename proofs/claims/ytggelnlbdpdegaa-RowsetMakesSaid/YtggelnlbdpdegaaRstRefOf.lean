/- The document's Of. -/
import Derived.Test.YtggelnlbdpdegaaRstSet
namespace Go.Proofs.Ytggelnlbdpdegaa
open Go.RowKit
set_option maxRecDepth 100000

set_option maxHeartbeats 1000000 in
theorem refOf_any (N : Int) (A : Option Addr) (n cap B : Nat) (l : List Int) (w : World) (hl : l.length = n) (hn : n ≤ 140737488351232) (hf : Fits64 l) (hb : Ints w B A l) (hB : B ≤ w.heap.size) :
    Calls Try.prog 8 #[.int .i64 N, .slice A n cap] w (SetPost w (Rst.ofR N l)) := by
  by_cases h0 : 0 ≤ N
  · by_cases h1 : N ≤ 4096
    · obtain ⟨m, rfl⟩ : ∃ m : Nat, N = m := ⟨N.toNat, by omega⟩
      have hm : m ≤ 4096 := by omega
      have hx4 := RBox.new w 0 none 0 0
      have hbel : Below w.heap.size w (w.alloc (.cells #[.int .i64 0, .slice none 0 0] 26)) := (Below.refl _ _).alloc (Nat.le_refl _) _
      have hsz : (w.alloc (.cells #[.int .i64 0, .slice none 0 0] 26)).heap.size = w.heap.size + 1 := by simp
      have hb := hb.below (hbel.mono hB)
      have hmk := run_make_bools m (by omega)
      have ho := own_bools (w.alloc (.cells #[.int .i64 0, .slice none 0 0] 26)) m (by simp only [maxLen]; omega)
      rw [← Rst.ofL_nil] at ho
      have Hl := Lib.hid hl
      have HF := Lib.hid hf
      have Hok := Lib.hid (fun h => Rst.ofR_ok (l := l) hm h)
      have Hbad := Lib.hid (fun h => Rst.ofR_bad (n := m) (l := l) h)
      have HS := Lib.hid (fun A2 B2 W hbW hBW => set_any A2 m m B2 (Rst.ofL m l) W (Rst.ofL_length m l) hm hbW hBW)
      have HP := Lib.hid (show (Rst.pack (Rst.ofL m l)).length = Rst.need m by rw [Rst.pack_length, Rst.ofL_length])
      generalize Rst.ofR (m : Int) l = R at *
      clear hl hf
      go_enter Try.func8, Try.ntmps8
      go_wp2_with fail
      generalize w.alloc (.cells #[.int .i64 0, .slice none 0 0] 26) = w1 at *
      rw [hsz] at ho
      have hx4 := hx4.alloc (.cells (madeCells #[.bool false] m) 4)
      have hbel := hbel.alloc (by omega) (.cells (madeCells #[.bool false] m) 4)
      have hb := hb.below (B := B) (w' := w1.alloc (.cells (madeCells #[.bool false] m) 4)) (((Below.refl _ _).alloc (Nat.le_refl _) _).mono (by omega))
      go_wp2
      generalize w1.alloc (.cells (madeCells #[.bool false] m) 4) = w2 at *
      clear hmk
      go_loopw [7] (fun i wr => ∃ k : Nat, k ≤ n ∧ i = .int .i64 k ∧ BOwn wr (w.heap.size + 1) (some ⟨w.heap.size + 1, 0, none⟩) m m (Rst.ofL m (l.take k)) ∧ (l.take k).all (Rst.okRow m) = true ∧ w2.grownBy wr (some (w.heap.size + 1))) (fun i _ => n - (intOf i).toNat)
      case atStart => exact ⟨0, by omega, rfl, ho, rfl, World.grownBy.refl _ _⟩
      case round =>
        clear ho
        obtain ⟨k, hk, rfl, ho, hall, hgr⟩ := hrel
        have hx4r := hx4.grown hgr (by intro e; injection e with e; omega)
        have hbelr := hbel.grown hgr (by have := hbel.size; omega) (by intro j hj; injection hj with hj; omega)
        obtain ⟨c40, c41⟩ := hx4r.cell
        have f40 := hx4r.free 0
        have f41 := hx4r.free 1
        have Hall := Lib.hid hall
        clear hall
        by_cases hlt : k < n
        · have hk' : k < l.length := by have := Hl.out; omega
          have hbr := hb.keep (w' := wr) (fun p hp => hgr.cell_far p (by have := hbel.size; omega) (by intro e; injection e with e; omega))
          obtain ⟨ad, rfl, hadB, hcell⟩ := hbr.get hk'
          simp only [ival] at hcell
          have Hb := Lib.hid (fun h => Hbad.out (Rst.all_bad (p := Rst.okRow m) hk' h))
          have Ht := Lib.hid (fun h => Rst.take_all (p := Rst.okRow m) hk' Hall.out h)
          have Htk := Lib.hid (List.take_succ_eq_append_getElem hk')
          generalize l[k] = r at *
          by_cases h0 : 0 ≤ r
          · by_cases hr : r < (m : Int)
            · obtain ⟨q, rfl⟩ : ∃ q : Nat, r = q := ⟨r.toNat, by omega⟩
              have hqm : q < m := by omega
              have hq : q < (Rst.ofL m (l.take k)).length := by rw [Rst.ofL_length]; omega
              have hold := ho.cell hq
              have hfree := ho.free q
              have hst := ho.store q true
              rw [Rst.ofL_snoc _ hqm, ← Htk.out] at hst
              simp only [blval] at hold hst
              have Hst := Lib.hid hst
              have Hall' := Lib.hid (Ht.out (by unfold Rst.okRow; rw [decide_eq_true h0, decide_eq_true hr]; rfl))
              have Hg := Lib.hid (fun u => Lib.grownBy_setB hgr q u)
              generalize (Rst.ofL m (l.take k))[q] = old at *
              clear ho hq Hb Ht hst hgr
              go_wp2
              go_roundw
              case rel => exact ⟨k + 1, by omega, by go_num, Hst.out, Hall'.out, Hg.out _⟩
              case measure => simp [intOf]; omega
            · have HR := Lib.hid (Hb.out (by unfold Rst.okRow; rw [decide_eq_false hr, Bool.and_false]))
              clear ho Hb Ht Htk
              go_wp2
              exact bodyPost_ret (v := .tuple #[rval 0 none 0 0, .int .i64 1]) (by simp [results, Try.results8, go_sem, rval, c40, c41]) rfl
                (SetPost.no HR.out ((hbelr.setCell (by simp) _).setCell (by simp) _))
          · have HR := Lib.hid (Hb.out (by unfold Rst.okRow; rw [decide_eq_false h0, Bool.false_and]))
            clear ho Hb Ht Htk
            go_wp2
            exact bodyPost_ret (v := .tuple #[rval 0 none 0 0, .int .i64 1]) (by simp [results, Try.results8, go_sem, rval, c40, c41]) rfl
              (SetPost.no HR.out ((hbelr.setCell (by simp) _).setCell (by simp) _))
        · obtain rfl : k = n := by omega
          have hall := Hall.out
          rw [List.take_of_length_le (by rw [Hl.out]; exact Nat.le_refl _)] at ho hall
          have HR := Lib.hid (Hok.out hall)
          clear hall
          have hszr : w.heap.size + 1 ≤ wr.heap.size := by have := hx4r.lt; have := ho.size; omega
          go_wp2_with fail
          refine (HS.out _ _ _ ho.row (Nat.le_refl _)).mono ?_
          rintro e w5 ⟨A5, c5, rfl, ho5, hb5⟩
          unfold rval
          clear HS
          have hx4s := hx4r.below hb5 hx4r.lt
          have hbels := hbelr.trans (hb5.mono (by omega))
          clear c40 c41 f40 f41
          obtain ⟨c40, c41⟩ := hx4s.cell
          have f40 := hx4s.free 0
          have f41 := hx4s.free 1
          have HP' := HP.out
          generalize Rst.need m = S at *
          go_wp2
          have hone : ∀ u v, NOwn ((w5.setCell ⟨w.heap.size, 0, none⟩ u).setCell ⟨w.heap.size, 1, none⟩ v) w.heap.size A5 S c5 (Rst.pack (Rst.ofL m l)) := fun u v => ((ho5.setFar (by simp; omega) u).setFar (by simp; omega) v).low (by omega)
          exact bodyPost_ret (v := .tuple #[rval (m : Int) A5 S c5, .int .i64 0]) (by simp [results, Try.results8, go_sem, rval, c40, c41]) rfl
            (SetPost.yes HR.out HP' (hone _ _) ((hbels.setCell (by simp) _).setCell (by simp) _))
    · have HR := Lib.hid (Rst.ofR_range (N := N) (l := l) (fun h => h1 h.2))
      clear hb hl hf
      generalize Rst.ofR N l = R at *
      go_enter Try.func8, Try.ntmps8
      go_wp2
      exact bodyPost_ret (v := .tuple #[rval 0 none 0 0, .int .i64 1]) (by simp [results, Try.results8, go_sem, rval]) rfl
        (SetPost.no HR.out ((Below.refl _ _).alloc (Nat.le_refl _) _))
  · have HR := Lib.hid (Rst.ofR_range (N := N) (l := l) (fun h => h0 h.1))
    clear hb hl hf
    generalize Rst.ofR N l = R at *
    go_enter Try.func8, Try.ntmps8
    go_wp2
    exact bodyPost_ret (v := .tuple #[rval 0 none 0 0, .int .i64 1]) (by simp [results, Try.results8, go_sem, rval]) rfl
      (SetPost.no HR.out ((Below.refl _ _).alloc (Nat.le_refl _) _))
end Go.Proofs.Ytggelnlbdpdegaa
