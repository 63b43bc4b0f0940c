/- PROVED: the law RowsetMakes (sets of any count, of any rows and granules, are the document's, or refused) returns true and leaves its arguments as they were, for every argument.
   Conditions: none but the form's own reach (a slice has fewer than 2^47 bytes). -/
import Derived.Test.YtggelnlbdpdegaaRstArg
import Derived.Test.YtggelnlbdpdegaaRstWi
import Derived.Test.YtggelnlbdpdegaaRstFull
import Derived.Test.YtggelnlbdpdegaaRstRefWi
namespace Go.Proofs.Ytggelnlbdpdegaa.rowsetMakes
open Go.ChangeShapes Go.WideShapes Go.ChangeAt Go.RowKit
set_option maxRecDepth 100000

theorem small_of (N : Int) (l : List Int) : (Rst.ofR N l).1.2.length ≤ 64 := by
  unfold Rst.ofR
  split
  · split
    · simp only [Rst.pack_length, Rst.ofL_length]; exact need_le (by omega)
    · simp
  · simp
theorem small_wi (N : Int) (l : List Int) : (Rst.wiR N l).1.2.length ≤ 64 := by
  unfold Rst.wiR
  split
  · split
    · simp only [Rst.pack_length, Rst.withinL_length]; exact need_le (by omega)
    · simp
  · simp
theorem small_full (N : Int) : (fullR N).1.2.length ≤ 64 := by
  unfold fullR
  split
  · simp only [Rst.pack_length, List.length_replicate]; exact need_le (by omega)
  · simp
/-- what a maker leaves, by letters -/
theorem letters {f : Nat} {args : Array Value} {W : World} {M : Int} {ws : List UInt64} {ε : Nat} (h : Calls Try.prog f args W (SetPost W ((M, ws), ε))) :
    Calls Try.prog f args W fun e w' => ∃ A c, e = .returned (.tuple #[.agg #[.int .i64 M, .slice A ws.length c], .int .i64 (ε : Int)]) ∧ Nums w' w'.heap.size A ws ∧ Below W.heap.size W w' := by
  refine h.mono ?_
  rintro e w' ⟨A, c, rfl, ho, hb⟩
  exact ⟨A, c, rfl, ho.row, hb⟩
theorem sameL (M : Int) (ws : List UInt64) (h : ws.length ≤ 64) (A1 A2 : Option Addr) (c1 c2 : Nat) (W : World) (h1 : Nums W W.heap.size A1 ws) (h2 : Nums W W.heap.size A2 ws) :
    Calls Try.prog 13 #[.agg #[.int .i64 M, .slice A1 ws.length c1], .agg #[.int .i64 M, .slice A2 ws.length c2]] W fun e w' => e = .returned (.bool true) ∧ Below W.heap.size W w' := by
  have h := same_any M M A1 A2 ws.length ws.length c1 c2 W.heap.size W.heap.size ws ws W rfl rfl (by omega) (by omega) h1 h2 (Nat.le_refl _) (Nat.le_refl _)
  rw [decide_eq_true ⟨rfl, rfl⟩] at h
  exact h

set_option maxHeartbeats 4000000 in
theorem walk (N : Int) (A : Option Addr) (n cap : Nat) (l : List Int) (w : World) (_h0 : -9223372036854775808 ≤ N) (_h1 : N ≤ 9223372036854775807)
    (hl : l.length = n) (_hc : n ≤ cap) (hn : 8 * n ≤ 140737488351232) (hf : Fits64 l) (hb : Ints w w.heap.size A l) :
    Calls Try.prog 3 #[.int .i64 N, .slice A n cap] w fun e w' => e = .returned (.bool true) ∧ Below w.heap.size w w' := by
  have sO := small_of N l
  obtain ⟨MO, wsO, kO, xO, PO, QO, SO⟩ : ∃ (MO : Int) (wsO : List UInt64) (kO : Nat) (xO : Int), Hid (∀ A1 c1 W, Ints W W.heap.size A1 l → Calls Try.prog 7 #[.int .i64 N, .slice A1 n c1] W fun e w' => ∃ A c, e = .returned (.tuple #[.agg #[.int .i64 MO, .slice A kO c], .int .i64 xO]) ∧ Nums w' w'.heap.size A wsO ∧ Below W.heap.size W w') ∧ Hid (∀ A1 c1 W, Ints W W.heap.size A1 l → Calls Try.prog 8 #[.int .i64 N, .slice A1 n c1] W fun e w' => ∃ A c, e = .returned (.tuple #[.agg #[.int .i64 MO, .slice A kO c], .int .i64 xO]) ∧ Nums w' w'.heap.size A wsO ∧ Below W.heap.size W w') ∧
      Hid (∀ A1 A2 c1 c2 W, Nums W W.heap.size A1 wsO → Nums W W.heap.size A2 wsO → Calls Try.prog 13 #[.agg #[.int .i64 MO, .slice A1 kO c1], .agg #[.int .i64 MO, .slice A2 kO c2]] W fun e w' => e = .returned (.bool true) ∧ Below W.heap.size W w') :=
    ⟨_, _, _, _, Lib.hid (fun A1 c1 W h => letters (of_any N A1 n c1 W.heap.size l W hl (by omega) hf h (Nat.le_refl _))), Lib.hid (fun A1 c1 W h => letters (refOf_any N A1 n c1 W.heap.size l W hl (by omega) hf h (Nat.le_refl _))), Lib.hid (fun A1 A2 c1 c2 W h1 h2 => sameL _ _ sO A1 A2 c1 c2 W h1 h2)⟩
  clear sO
  have hEEO : (xO == xO) = true := beq_self_eq_true _
  have sF := small_full N
  obtain ⟨MF, wsF, kF, xF, PF, QF, SF⟩ : ∃ (MF : Int) (wsF : List UInt64) (kF : Nat) (xF : Int), Hid (∀ W, Calls Try.prog 9 #[.int .i64 N] W fun e w' => ∃ A c, e = .returned (.tuple #[.agg #[.int .i64 MF, .slice A kF c], .int .i64 xF]) ∧ Nums w' w'.heap.size A wsF ∧ Below W.heap.size W w') ∧ Hid (∀ W, Calls Try.prog 10 #[.int .i64 N] W fun e w' => ∃ A c, e = .returned (.tuple #[.agg #[.int .i64 MF, .slice A kF c], .int .i64 xF]) ∧ Nums w' w'.heap.size A wsF ∧ Below W.heap.size W w') ∧
      Hid (∀ A1 A2 c1 c2 W, Nums W W.heap.size A1 wsF → Nums W W.heap.size A2 wsF → Calls Try.prog 13 #[.agg #[.int .i64 MF, .slice A1 kF c1], .agg #[.int .i64 MF, .slice A2 kF c2]] W fun e w' => e = .returned (.bool true) ∧ Below W.heap.size W w') :=
    ⟨_, _, _, _, Lib.hid (fun W => letters (full_any N W)), Lib.hid (fun W => letters (refFull_any N W)), Lib.hid (fun A1 A2 c1 c2 W h1 h2 => sameL _ _ sF A1 A2 c1 c2 W h1 h2)⟩
  clear sF
  have hEEF : (xF == xF) = true := beq_self_eq_true _
  have sI := small_wi N l
  obtain ⟨MI, wsI, kI, xI, PI, QI, SI⟩ : ∃ (MI : Int) (wsI : List UInt64) (kI : Nat) (xI : Int), Hid (∀ A1 c1 W, Ints W W.heap.size A1 l → Calls Try.prog 11 #[.int .i64 N, .slice A1 n c1] W fun e w' => ∃ A c, e = .returned (.tuple #[.agg #[.int .i64 MI, .slice A kI c], .int .i64 xI]) ∧ Nums w' w'.heap.size A wsI ∧ Below W.heap.size W w') ∧ Hid (∀ A1 c1 W, Ints W W.heap.size A1 l → Calls Try.prog 12 #[.int .i64 N, .slice A1 n c1] W fun e w' => ∃ A c, e = .returned (.tuple #[.agg #[.int .i64 MI, .slice A kI c], .int .i64 xI]) ∧ Nums w' w'.heap.size A wsI ∧ Below W.heap.size W w') ∧
      Hid (∀ A1 A2 c1 c2 W, Nums W W.heap.size A1 wsI → Nums W W.heap.size A2 wsI → Calls Try.prog 13 #[.agg #[.int .i64 MI, .slice A1 kI c1], .agg #[.int .i64 MI, .slice A2 kI c2]] W fun e w' => e = .returned (.bool true) ∧ Below W.heap.size W w') :=
    ⟨_, _, _, _, Lib.hid (fun A1 c1 W h => letters (within_any N A1 n c1 W.heap.size l W hl (by omega) hf h (Nat.le_refl _))), Lib.hid (fun A1 c1 W h => letters (refWithin_any N A1 n c1 W.heap.size l W hl (by omega) hf h (Nat.le_refl _))), Lib.hid (fun A1 A2 c1 c2 W h1 h2 => sameL _ _ sI A1 A2 c1 c2 W h1 h2)⟩
  clear sI
  have hEEI : (xI == xI) = true := beq_self_eq_true _
  have Hl := Lib.hid hl
  clear hl hf
  go_enter Try.func3, Try.ntmps3
  have hbel := Below.refl w.heap.size w
  have r1 := hb
  go_wp2_with fail
  refine (rstAlive_any w).mono ?_
  rintro e w1 ⟨rfl, hb⟩
  have r1 := (r1.below hb).wide hb.size
  have hbel := hbel.trans (hb.mono hbel.size)
  clear hb
  have ho := ROwn.made (f := ival) (e := 3) w1 w1.heap.size #[] 0 (Nat.le_refl _) (by simp only [maxLen]; omega) rfl
  have hA : Below w1.heap.size w1 (w1.alloc (.cells #[] 3)) := (Below.refl _ _).alloc (Nat.le_refl _) _
  have rA := r1.below hA
  have hzA : w1.heap.size ≤ (w1.alloc (.cells #[] 3)).heap.size := by simp
  go_wp2_with (at_builtin; refine wpList_append_row elemI rfl (.tmp 20) (.tmp 21) rfl w1.heap.size _ 0 0 [] rfl ho w1.heap.size A n cap l rfl Hl.out rA (by omega) (by simp only [maxLen]; omega) hzA ?_; intro A2 c2 w2 ho2 hg2 hat2)
  have hb2 : Below w1.heap.size w1 w2 := hA.grown hg2 hzA (by intro k hk; simp only [blk, Option.map_some] at hk; injection hk with hk; omega)
  rw [Nat.zero_add, List.nil_append] at ho2
  have r2 := ho2.row
  clear ho hA rA hzA hg2 hat2 ho2
  have r1 := (r1.below hb2).wide hb2.size
  have hbel := hbel.trans (hb2.mono hbel.size)
  clear hb2
  refine (PO.out _ _ _ r2).mono ?_
  rintro e w3 ⟨A3, c3, rfl, q3, hb⟩
  have r1 := (r1.below hb).wide hb.size
  have r2 := (r2.below hb).wide hb.size
  have hbel := hbel.trans (hb.mono hbel.size)
  clear hb
  have hbA : Below w3.heap.size w3 (w3.alloc (.cells #[.int .i64 MO, .slice A3 kO c3] 26)) := (Below.refl _ _).alloc (Nat.le_refl _) _
  have x3N := RBox.new w3 MO A3 kO c3
  have r1 := (r1.below hbA).wide hbA.size
  have r2 := (r2.below hbA).wide hbA.size
  have q3 := (q3.below hbA).wide hbA.size
  have hbel := hbel.trans (hbA.mono hbel.size)
  obtain ⟨b_x3, hb_x3⟩ : ∃ b, b = w3.heap.size := ⟨_, rfl⟩
  rw [← hb_x3] at x3N
  have HB_x3 := Lib.hid hb_x3
  have x3 := x3N
  clear hbA x3N hb_x3
  obtain ⟨c_x3_0, c_x3_1⟩ := x3.cell
  go_wp2_with fail
  generalize (w3.alloc (.cells #[.int .i64 MO, .slice A3 kO c3] 26)) = w4 at *
  rw [← HB_x3.out]
  refine (QO.out _ _ _ r1).mono ?_
  rintro e w5 ⟨A4, c4, rfl, q4, hb⟩
  have x3 := x3.below hb x3.lt
  have r1 := (r1.below hb).wide hb.size
  have r2 := (r2.below hb).wide hb.size
  have q3 := (q3.below hb).wide hb.size
  have hbel := hbel.trans (hb.mono hbel.size)
  clear hb
  have hbA : Below w5.heap.size w5 (w5.alloc (.cells #[.int .i64 MO, .slice A4 kO c4] 26)) := (Below.refl _ _).alloc (Nat.le_refl _) _
  have x4N := RBox.new w5 MO A4 kO c4
  have x3 := x3.below hbA x3.lt
  have r1 := (r1.below hbA).wide hbA.size
  have r2 := (r2.below hbA).wide hbA.size
  have q3 := (q3.below hbA).wide hbA.size
  have q4 := (q4.below hbA).wide hbA.size
  have hbel := hbel.trans (hbA.mono hbel.size)
  obtain ⟨b_x4, hb_x4⟩ : ∃ b, b = w5.heap.size := ⟨_, rfl⟩
  rw [← hb_x4] at x4N
  have HB_x4 := Lib.hid hb_x4
  have x4 := x4N
  clear hbA x4N hb_x4
  clear c_x3_0 c_x3_1
  obtain ⟨c_x3_0, c_x3_1⟩ := x3.cell
  obtain ⟨c_x4_0, c_x4_1⟩ := x4.cell
  go_wp2_with fail
  generalize (w5.alloc (.cells #[.int .i64 MO, .slice A4 kO c4] 26)) = w6 at *
  rw [← HB_x4.out]
  refine (PF.out _).mono ?_
  rintro e w7 ⟨A5, c5, rfl, q5, hb⟩
  have x3 := x3.below hb x3.lt
  have x4 := x4.below hb x4.lt
  have r1 := (r1.below hb).wide hb.size
  have r2 := (r2.below hb).wide hb.size
  have q3 := (q3.below hb).wide hb.size
  have q4 := (q4.below hb).wide hb.size
  have hbel := hbel.trans (hb.mono hbel.size)
  clear hb
  have hbA : Below w7.heap.size w7 (w7.alloc (.cells #[.int .i64 MF, .slice A5 kF c5] 26)) := (Below.refl _ _).alloc (Nat.le_refl _) _
  have x5N := RBox.new w7 MF A5 kF c5
  have x3 := x3.below hbA x3.lt
  have x4 := x4.below hbA x4.lt
  have r1 := (r1.below hbA).wide hbA.size
  have r2 := (r2.below hbA).wide hbA.size
  have q3 := (q3.below hbA).wide hbA.size
  have q4 := (q4.below hbA).wide hbA.size
  have q5 := (q5.below hbA).wide hbA.size
  have hbel := hbel.trans (hbA.mono hbel.size)
  obtain ⟨b_x5, hb_x5⟩ : ∃ b, b = w7.heap.size := ⟨_, rfl⟩
  rw [← hb_x5] at x5N
  have HB_x5 := Lib.hid hb_x5
  have x5 := x5N
  clear hbA x5N hb_x5
  clear c_x3_0 c_x3_1 c_x4_0 c_x4_1
  obtain ⟨c_x3_0, c_x3_1⟩ := x3.cell
  obtain ⟨c_x4_0, c_x4_1⟩ := x4.cell
  obtain ⟨c_x5_0, c_x5_1⟩ := x5.cell
  go_wp2_with fail
  generalize (w7.alloc (.cells #[.int .i64 MF, .slice A5 kF c5] 26)) = w8 at *
  rw [← HB_x5.out]
  refine (QF.out _).mono ?_
  rintro e w9 ⟨A6, c6, rfl, q6, hb⟩
  have x3 := x3.below hb x3.lt
  have x4 := x4.below hb x4.lt
  have x5 := x5.below hb x5.lt
  have r1 := (r1.below hb).wide hb.size
  have r2 := (r2.below hb).wide hb.size
  have q3 := (q3.below hb).wide hb.size
  have q4 := (q4.below hb).wide hb.size
  have q5 := (q5.below hb).wide hb.size
  have hbel := hbel.trans (hb.mono hbel.size)
  clear hb
  have hbA : Below w9.heap.size w9 (w9.alloc (.cells #[.int .i64 MF, .slice A6 kF c6] 26)) := (Below.refl _ _).alloc (Nat.le_refl _) _
  have x6N := RBox.new w9 MF A6 kF c6
  have x3 := x3.below hbA x3.lt
  have x4 := x4.below hbA x4.lt
  have x5 := x5.below hbA x5.lt
  have r1 := (r1.below hbA).wide hbA.size
  have r2 := (r2.below hbA).wide hbA.size
  have q3 := (q3.below hbA).wide hbA.size
  have q4 := (q4.below hbA).wide hbA.size
  have q5 := (q5.below hbA).wide hbA.size
  have q6 := (q6.below hbA).wide hbA.size
  have hbel := hbel.trans (hbA.mono hbel.size)
  obtain ⟨b_x6, hb_x6⟩ : ∃ b, b = w9.heap.size := ⟨_, rfl⟩
  rw [← hb_x6] at x6N
  have HB_x6 := Lib.hid hb_x6
  have x6 := x6N
  clear hbA x6N hb_x6
  clear c_x3_0 c_x3_1 c_x4_0 c_x4_1 c_x5_0 c_x5_1
  obtain ⟨c_x3_0, c_x3_1⟩ := x3.cell
  obtain ⟨c_x4_0, c_x4_1⟩ := x4.cell
  obtain ⟨c_x5_0, c_x5_1⟩ := x5.cell
  obtain ⟨c_x6_0, c_x6_1⟩ := x6.cell
  go_wp2_with fail
  generalize (w9.alloc (.cells #[.int .i64 MF, .slice A6 kF c6] 26)) = w10 at *
  rw [← HB_x6.out]
  refine (PI.out _ _ _ r2).mono ?_
  rintro e w11 ⟨A7, c7, rfl, q7, hb⟩
  have x3 := x3.below hb x3.lt
  have x4 := x4.below hb x4.lt
  have x5 := x5.below hb x5.lt
  have x6 := x6.below hb x6.lt
  have r1 := (r1.below hb).wide hb.size
  have r2 := (r2.below hb).wide hb.size
  have q3 := (q3.below hb).wide hb.size
  have q4 := (q4.below hb).wide hb.size
  have q5 := (q5.below hb).wide hb.size
  have q6 := (q6.below hb).wide hb.size
  have hbel := hbel.trans (hb.mono hbel.size)
  clear hb
  have hbA : Below w11.heap.size w11 (w11.alloc (.cells #[.int .i64 MI, .slice A7 kI c7] 26)) := (Below.refl _ _).alloc (Nat.le_refl _) _
  have x7N := RBox.new w11 MI A7 kI c7
  have x3 := x3.below hbA x3.lt
  have x4 := x4.below hbA x4.lt
  have x5 := x5.below hbA x5.lt
  have x6 := x6.below hbA x6.lt
  have r1 := (r1.below hbA).wide hbA.size
  have r2 := (r2.below hbA).wide hbA.size
  have q3 := (q3.below hbA).wide hbA.size
  have q4 := (q4.below hbA).wide hbA.size
  have q5 := (q5.below hbA).wide hbA.size
  have q6 := (q6.below hbA).wide hbA.size
  have q7 := (q7.below hbA).wide hbA.size
  have hbel := hbel.trans (hbA.mono hbel.size)
  obtain ⟨b_x7, hb_x7⟩ : ∃ b, b = w11.heap.size := ⟨_, rfl⟩
  rw [← hb_x7] at x7N
  have HB_x7 := Lib.hid hb_x7
  have x7 := x7N
  clear hbA x7N hb_x7
  clear c_x3_0 c_x3_1 c_x4_0 c_x4_1 c_x5_0 c_x5_1 c_x6_0 c_x6_1
  obtain ⟨c_x3_0, c_x3_1⟩ := x3.cell
  obtain ⟨c_x4_0, c_x4_1⟩ := x4.cell
  obtain ⟨c_x5_0, c_x5_1⟩ := x5.cell
  obtain ⟨c_x6_0, c_x6_1⟩ := x6.cell
  obtain ⟨c_x7_0, c_x7_1⟩ := x7.cell
  go_wp2_with fail
  generalize (w11.alloc (.cells #[.int .i64 MI, .slice A7 kI c7] 26)) = w12 at *
  rw [← HB_x7.out]
  refine (QI.out _ _ _ r1).mono ?_
  rintro e w13 ⟨A8, c8, rfl, q8, hb⟩
  have x3 := x3.below hb x3.lt
  have x4 := x4.below hb x4.lt
  have x5 := x5.below hb x5.lt
  have x6 := x6.below hb x6.lt
  have x7 := x7.below hb x7.lt
  have r1 := (r1.below hb).wide hb.size
  have r2 := (r2.below hb).wide hb.size
  have q3 := (q3.below hb).wide hb.size
  have q4 := (q4.below hb).wide hb.size
  have q5 := (q5.below hb).wide hb.size
  have q6 := (q6.below hb).wide hb.size
  have q7 := (q7.below hb).wide hb.size
  have hbel := hbel.trans (hb.mono hbel.size)
  clear hb
  have hbA : Below w13.heap.size w13 (w13.alloc (.cells #[.int .i64 MI, .slice A8 kI c8] 26)) := (Below.refl _ _).alloc (Nat.le_refl _) _
  have x8N := RBox.new w13 MI A8 kI c8
  have x3 := x3.below hbA x3.lt
  have x4 := x4.below hbA x4.lt
  have x5 := x5.below hbA x5.lt
  have x6 := x6.below hbA x6.lt
  have x7 := x7.below hbA x7.lt
  have r1 := (r1.below hbA).wide hbA.size
  have r2 := (r2.below hbA).wide hbA.size
  have q3 := (q3.below hbA).wide hbA.size
  have q4 := (q4.below hbA).wide hbA.size
  have q5 := (q5.below hbA).wide hbA.size
  have q6 := (q6.below hbA).wide hbA.size
  have q7 := (q7.below hbA).wide hbA.size
  have q8 := (q8.below hbA).wide hbA.size
  have hbel := hbel.trans (hbA.mono hbel.size)
  obtain ⟨b_x8, hb_x8⟩ : ∃ b, b = w13.heap.size := ⟨_, rfl⟩
  rw [← hb_x8] at x8N
  have HB_x8 := Lib.hid hb_x8
  have x8 := x8N
  clear hbA x8N hb_x8
  clear c_x3_0 c_x3_1 c_x4_0 c_x4_1 c_x5_0 c_x5_1 c_x6_0 c_x6_1 c_x7_0 c_x7_1
  obtain ⟨c_x3_0, c_x3_1⟩ := x3.cell
  obtain ⟨c_x4_0, c_x4_1⟩ := x4.cell
  obtain ⟨c_x5_0, c_x5_1⟩ := x5.cell
  obtain ⟨c_x6_0, c_x6_1⟩ := x6.cell
  obtain ⟨c_x7_0, c_x7_1⟩ := x7.cell
  obtain ⟨c_x8_0, c_x8_1⟩ := x8.cell
  go_wp2_with fail
  generalize (w13.alloc (.cells #[.int .i64 MI, .slice A8 kI c8] 26)) = w14 at *
  rw [← HB_x8.out]
  refine (SO.out _ _ _ _ _ q3 q4).mono ?_
  rintro e w15 ⟨rfl, hb⟩
  have x3 := x3.below hb x3.lt
  have x4 := x4.below hb x4.lt
  have x5 := x5.below hb x5.lt
  have x6 := x6.below hb x6.lt
  have x7 := x7.below hb x7.lt
  have x8 := x8.below hb x8.lt
  have r1 := (r1.below hb).wide hb.size
  have r2 := (r2.below hb).wide hb.size
  have q3 := (q3.below hb).wide hb.size
  have q4 := (q4.below hb).wide hb.size
  have q5 := (q5.below hb).wide hb.size
  have q6 := (q6.below hb).wide hb.size
  have q7 := (q7.below hb).wide hb.size
  have q8 := (q8.below hb).wide hb.size
  have hbel := hbel.trans (hb.mono hbel.size)
  clear hb
  clear c_x3_0 c_x3_1 c_x4_0 c_x4_1 c_x5_0 c_x5_1 c_x6_0 c_x6_1 c_x7_0 c_x7_1 c_x8_0 c_x8_1
  obtain ⟨c_x3_0, c_x3_1⟩ := x3.cell
  obtain ⟨c_x4_0, c_x4_1⟩ := x4.cell
  obtain ⟨c_x5_0, c_x5_1⟩ := x5.cell
  obtain ⟨c_x6_0, c_x6_1⟩ := x6.cell
  obtain ⟨c_x7_0, c_x7_1⟩ := x7.cell
  obtain ⟨c_x8_0, c_x8_1⟩ := x8.cell
  go_wp2_with fail
  refine (SF.out _ _ _ _ _ q5 q6).mono ?_
  rintro e w16 ⟨rfl, hb⟩
  have x3 := x3.below hb x3.lt
  have x4 := x4.below hb x4.lt
  have x5 := x5.below hb x5.lt
  have x6 := x6.below hb x6.lt
  have x7 := x7.below hb x7.lt
  have x8 := x8.below hb x8.lt
  have r1 := (r1.below hb).wide hb.size
  have r2 := (r2.below hb).wide hb.size
  have q3 := (q3.below hb).wide hb.size
  have q4 := (q4.below hb).wide hb.size
  have q5 := (q5.below hb).wide hb.size
  have q6 := (q6.below hb).wide hb.size
  have q7 := (q7.below hb).wide hb.size
  have q8 := (q8.below hb).wide hb.size
  have hbel := hbel.trans (hb.mono hbel.size)
  clear hb
  clear c_x3_0 c_x3_1 c_x4_0 c_x4_1 c_x5_0 c_x5_1 c_x6_0 c_x6_1 c_x7_0 c_x7_1 c_x8_0 c_x8_1
  obtain ⟨c_x3_0, c_x3_1⟩ := x3.cell
  obtain ⟨c_x4_0, c_x4_1⟩ := x4.cell
  obtain ⟨c_x5_0, c_x5_1⟩ := x5.cell
  obtain ⟨c_x6_0, c_x6_1⟩ := x6.cell
  obtain ⟨c_x7_0, c_x7_1⟩ := x7.cell
  obtain ⟨c_x8_0, c_x8_1⟩ := x8.cell
  go_wp2_with fail
  refine (SI.out _ _ _ _ _ q7 q8).mono ?_
  rintro e w17 ⟨rfl, hb⟩
  have x3 := x3.below hb x3.lt
  have x4 := x4.below hb x4.lt
  have x5 := x5.below hb x5.lt
  have x6 := x6.below hb x6.lt
  have x7 := x7.below hb x7.lt
  have x8 := x8.below hb x8.lt
  have r1 := (r1.below hb).wide hb.size
  have r2 := (r2.below hb).wide hb.size
  have q3 := (q3.below hb).wide hb.size
  have q4 := (q4.below hb).wide hb.size
  have q5 := (q5.below hb).wide hb.size
  have q6 := (q6.below hb).wide hb.size
  have q7 := (q7.below hb).wide hb.size
  have q8 := (q8.below hb).wide hb.size
  have hbel := hbel.trans (hb.mono hbel.size)
  clear hb
  clear c_x3_0 c_x3_1 c_x4_0 c_x4_1 c_x5_0 c_x5_1 c_x6_0 c_x6_1 c_x7_0 c_x7_1 c_x8_0 c_x8_1
  obtain ⟨c_x3_0, c_x3_1⟩ := x3.cell
  obtain ⟨c_x4_0, c_x4_1⟩ := x4.cell
  obtain ⟨c_x5_0, c_x5_1⟩ := x5.cell
  obtain ⟨c_x6_0, c_x6_1⟩ := x6.cell
  obtain ⟨c_x7_0, c_x7_1⟩ := x7.cell
  obtain ⟨c_x8_0, c_x8_1⟩ := x8.cell
  go_wp2_with fail
  refine (ints_any A2 A n n c2 cap w17.heap.size w17.heap.size l l w17 Hl.out Hl.out (by omega) (by omega) r2 r1).mono ?_
  rintro e wz ⟨rfl, hd⟩
  rw [decide_eq_true rfl]
  clear c_x3_0 c_x3_1 c_x4_0 c_x4_1 c_x5_0 c_x5_1 c_x6_0 c_x6_1 c_x7_0 c_x7_1 c_x8_0 c_x8_1
  go_wp2
  go_ret
  exact ⟨rfl, hbel.trans (hd.below _)⟩
/-- from the walk to the post of the row -/
theorem contract (H : Type) (enc : TypeId × Value → H) (W : World) (base : Nat) (args : Array Value) (ds gs : List (DataW H)) (before : List MemPlace)
    (hval : ∀ (j : Nat) t v, Try.f3.params[j]? = some t → args[j]? = some v → Value.okWide Try.prog W .any base t v)
    (hW : DataW.Whole enc Try.prog Try.f3.params.toList Rows.rowsetMakesSpec.vars false W args.toList ds gs before) (_ : laidMetH Try.prog Rows.rowsetMakesRow.laid W)
    (hsz0 : (DataW.weightsEach Try.prog (Try.f3.params.toList ++ Rows.rowsetMakesSpec.plain.varTypes Try.prog) (ds ++ gs)).all (· ≤ reachBytes) = true) :
    Calls Try.prog 3 args W fun e W' => ∃ v, e = .returned v ∧ Rows.rowsetMakesSpec.post enc Try.prog Try.f3 false true false false W args v W' := by
  have hW' := hW
  obtain ⟨p, q, hA0, hV, rfl, hfz, hnd⟩ := hW
  have hA : DataW.TrodAll enc Try.prog W 0 (fun _ => true) true Try.f3.params.toList args.toList ds p := hA0
  rw [Try.params3] at hA hval hsz0
  obtain ⟨v0, vs0, d0, ds0, p0, q0, hargs, rfl, rfl, h0, r0⟩ := trodAll_cons hA
  obtain ⟨v1, vs1, d1, ds1, p1, q1, rfl, rfl, rfl, h1, r1⟩ := trodAll_cons r0
  obtain ⟨rfl, rfl, rfl⟩ := trodAll_nil r1
  obtain rfl : args = #[v0, v1] := by cases args; simp_all
  obtain ⟨rfl, rfl⟩ := trodVars_none hV
  obtain ⟨x0, rfl, rfl, rfl, w0⟩ := open_int Try.underlying3 (hval 0 3 v0 rfl rfl) h0
  obtain ⟨a1, len1, cap1, rfl⟩ := okWide_slice Try.underlying22 (hval 1 22 v1 rfl rfl)
  have lt1 : ∀ x ∈ p1, x.block < W.heap.size := by obtain ⟨m, hm⟩ := h1; exact DataW.trod_lt m _ _ _ hm
  obtain ⟨l1, e1, ec1, ef1, b1, k1⟩ := open_intsI h1
  have reach1 := reach_intsI hsz0 (j := 1) rfl rfl k1
  clear hA0
  refine (walk x0 a1 len1 cap1 l1 W (by have := bounds_i64 w0; omega) (by have := bounds_i64 w0; omega) e1 ec1 reach1 ef1 b1).mono fun e W' ⟨he, bel⟩ => ?_
  subst he
  exact ⟨_, rfl, _, _, _, [], _, [], hW', trodAll_mk1 (shut_bool Try.underlying4 _), (trodAll_cons_mk (shut_int Try.underlying3 w0) (trodAll_cons_mk (Below.trod laidOut (by kernel_rfl) (of_decide_eq_true (by kernel_rfl)) h1 bel lt1) trodAll_mk0)), rfl, bel.frame _, fun h => by cases h⟩

theorem laid_met (os : Os) : laidMet Try.prog Rows.rowsetMakesRow.laid ((World.holding Try.prog os ⟨#[], #[], []⟩).forCall (fun _ _ => 0) ⟨#[], #[.int .i64 0, .slice none 0 0], []⟩).memory :=
  laidMet_of_run' 8 (by kernel_rfl) (by kernel_rfl)
theorem reads (os : Os) {H : Type} (enc : TypeId × Value → H) : ∃ places, DataW.whole enc Try.prog ((World.holding Try.prog os ⟨#[], #[], []⟩).forCall (fun _ _ => 0) ⟨#[], #[.int .i64 0, .slice none 0 0], []⟩).memory Try.f3.params.toList Rows.rowsetMakesSpec.vars false #[Value.int .i64 0, .slice none 0 0].toList 8 = some ([.lit (.int .i64 0), .nil], [], places) :=
  ⟨[], by kernel_rfl⟩

set_option maxRecDepth 100000 in
theorem lifted (os : Os) (started : os.Started) (H : Type) (enc : TypeId × Value → H) (F : Stop.Interp) :
    ReturnsInHanded {} Try.checked os 3 .any ((OpenSpec.ofChange Rows.rowsetMakesSpec).preRow enc Try.prog Try.f3 Rows.rowsetMakesRow.domain false Rows.rowsetMakesRow.laid) (((OpenSpec.ofChange Rows.rowsetMakesSpec).at F).post enc Try.prog Try.f3 false true false false) := by
  obtain ⟨places, hx⟩ := reads os enc
  refine returnsInHanded_of_row (C := Try.checked) (s := OpenSpec.ofChange Rows.rowsetMakesSpec) own started (by kernel_rfl) Try.func3
    (witness_row_at (enc := enc) (C := Try.checked) false (World.holding Try.prog os ⟨#[], #[], []⟩) #[.int .i64 0, .slice none 0 0] rfl (by kernel_rfl) (by kernel_rfl) (by kernel_rfl)
      (OpenSpec.preRow_of_cond 8 hx (by kernel_rfl) (fun k hk => by cases hk) (by kernel_rfl) (laid_met os))) ?_
  intro W base args ds gs before hval hW _ _ hsz hL _ _
  exact contract H enc W base args ds gs before hval hW hL hsz

theorem said : Rows.RowsetMakesSaid :=
  OpenClaim.holds_of_cond 3 Try.f3 rfl rfl rfl rfl rfl rfl rfl ⟨rfl, rfl, rfl, rfl, rfl⟩ rfl rfl rfl rfl rfl (by kernel_rfl) Try.func3 (by kernel_rfl)
    (of_decide_eq_true (by kernel_rfl)) (by unfold Func.isWrapper; first | (rw [if_pos (by decide +kernel)]; kernel_rfl) | (rw [if_neg (by decide +kernel)]; exact ⟨rfl, rfl⟩))
    (fun os started H enc _ F => by rw [OpenClaim.pre_eq_preRow]; exact lifted os started H enc F)

end Go.Proofs.Ytggelnlbdpdegaa.rowsetMakes
