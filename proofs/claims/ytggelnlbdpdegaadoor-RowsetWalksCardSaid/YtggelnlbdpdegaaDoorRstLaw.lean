/- The laws' fixed fact: alive. -/
import Derived.Test.YtggelnlbdpdegaaDoorRstOf
import Derived.Test.YtggelnlbdpdegaaDoorRstHas
namespace Go.Proofs.YtggelnlbdpdegaaDoor
open Go.RowKit
set_option maxRecDepth 100000

theorem alive_of : Rst.ofR 70 [0, 69] = ((70, [1, 32]), 0) := by decide +kernel
theorem alive_has : hasRow 70 [1, 32] 69 = true ∧ hasRow 70 [1, 32] 1 = false := by decide +kernel
theorem alive_count : countRow 70 [1, 32] = 2 := by decide +kernel
set_option maxHeartbeats 1000000 in
theorem rstAlive_any (w : World) : Calls Tryd.prog 6 #[] w fun e w' => e = .returned (.bool true) ∧ Below w.heap.size w w' := by
  have hi : IOwn (w.alloc (.cells #[.int .i64 0, .int .i64 69] 3)) w.heap.size (some ⟨w.heap.size, 0, none⟩) 2 2 [0, 69] :=
    ROwn.lit (f := ival) (e := 3) w w.heap.size [0, 69] (Nat.le_refl _) (by simp [maxLen])
  have hbel : Below w.heap.size w (w.alloc (.cells #[.int .i64 0, .int .i64 69] 3)) := (Below.refl _ _).alloc (Nat.le_refl _) _
  have hsz : (w.alloc (.cells #[.int .i64 0, .int .i64 69] 3)).heap.size = w.heap.size + 1 := by simp
  have hR := of_any 70 _ 2 2 _ [0, 69] _ rfl (by omega) (by intro z hz; simp at hz; omega) hi.row (Nat.le_refl _)
  rw [alive_of] at hR
  have HO : Hid (Calls Tryd.prog 20 #[.int .i64 70, .slice (some ⟨w.heap.size, 0, none⟩) 2 2] (w.alloc (.cells #[.int .i64 0, .int .i64 69] 3)) fun e w' => ∃ A c, e = .returned (.tuple #[.agg #[.int .i64 70, .slice A 2 c], .int .i64 0]) ∧
    NOwn w' (w.alloc (.cells #[.int .i64 0, .int .i64 69] 3)).heap.size A 2 c [1, 32] ∧ Below (w.alloc (.cells #[.int .i64 0, .int .i64 69] 3)).heap.size (w.alloc (.cells #[.int .i64 0, .int .i64 69] 3)) w') := hR
  clear hR
  have HH1 : Hid (∀ A c B W, Nums W B A [1, 32] → B ≤ W.heap.size → Calls Tryd.prog 11 #[.agg #[.int .i64 70, .slice A 2 c], .int .i64 69] W fun e w' => e = .returned (.bool true) ∧ Below W.heap.size W w') :=
    fun A c B W hb hB => by rw [← alive_has.1]; exact has_any 70 A 2 c B [1, 32] 69 W rfl (by omega) hb hB
  have HH2 : Hid (∀ A c B W, Nums W B A [1, 32] → B ≤ W.heap.size → Calls Tryd.prog 11 #[.agg #[.int .i64 70, .slice A 2 c], .int .i64 1] W fun e w' => e = .returned (.bool false) ∧ Below W.heap.size W w') :=
    fun A c B W hb hB => by rw [← alive_has.2]; exact has_any 70 A 2 c B [1, 32] 1 W rfl (by omega) hb hB
  have HC : Hid (∀ A c B W, Nums W B A [1, 32] → B ≤ W.heap.size → Calls Tryd.prog 12 #[.agg #[.int .i64 70, .slice A 2 c]] W fun e w' => e = .returned (.int .i64 2) ∧ Below W.heap.size W w') :=
    fun A c B W hb hB => by
      have := count_any 70 A 2 c B [1, 32] W rfl (by omega) hb hB
      rw [alive_count] at this
      exact this
  go_enter Tryd.func6, Tryd.ntmps6
  go_wp2_with fail
  generalize w.alloc (.cells #[.int .i64 0, .int .i64 69] 3) = w1 at *
  refine HO.out.mono ?_
  rintro e w2 ⟨A, c, rfl, ho, hb2⟩
  clear HO hi
  have hx := RBox.new w2 70 A 2 c
  have hbel := (hbel.trans (hb2.mono (by omega))).alloc (by have := hb2.size; omega) (.cells #[.int .i64 70, .slice A 2 c] 24)
  have ho := ho.alloc (.cells #[.int .i64 70, .slice A 2 c] 24)
  obtain ⟨g, rfl, hg0, hg1⟩ := ho.at_ (by omega)
  have d0 := ho.cell (k := 0) (by decide)
  have d1 := ho.cell (k := 1) (by decide)
  have hrow := ho.row
  simp only [uval, List.getElem_cons_zero, List.getElem_cons_succ] at d0 d1
  rw [show (((1 : UInt64).toNat : Nat) : Int) = 1 from rfl] at d0
  rw [show (((32 : UInt64).toNat : Nat) : Int) = 32 from rfl] at d1
  have hsz3 := hbel.size
  go_wp2_with fail
  generalize w2.alloc (.cells #[.int .i64 70, .slice (some ⟨g, 0, none⟩) 2 c] 24) = w3 at *
  refine (HH1.out _ _ _ _ hrow (Nat.le_refl _)).mono ?_
  rintro e w4 ⟨rfl, hb4⟩
  have hx := hx.below hb4 hx.lt
  have hrow := hrow.below hb4
  have hbel := hbel.trans (hb4.mono hsz3)
  have hs4 := hb4.size
  obtain ⟨c0, c1⟩ := hx.cell
  clear d0 d1 HH1 hb4
  go_wp2_with fail
  refine (HH2.out _ _ _ _ hrow hs4).mono ?_
  rintro e w5 ⟨rfl, hb5⟩
  have hx := hx.below hb5 hx.lt
  have hrow := (hrow.wide hs4).below hb5
  have hbel := hbel.trans (hb5.mono (by omega))
  have hs5 := hb5.size
  clear c0 c1 HH2 hb5
  obtain ⟨c0, c1⟩ := hx.cell
  go_wp2_with fail
  refine (HC.out _ _ _ _ hrow hs5).mono ?_
  rintro e w6 ⟨rfl, hb6⟩
  have hbel := hbel.trans (hb6.mono (by omega))
  clear c0 c1 HC hb6 hx
  go_wp2
  go_ret
  exact ⟨rfl, hbel⟩
end Go.Proofs.YtggelnlbdpdegaaDoor
