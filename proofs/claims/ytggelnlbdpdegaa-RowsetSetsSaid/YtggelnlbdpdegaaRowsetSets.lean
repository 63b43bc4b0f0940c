/- PROVED: the law RowsetSets (what is taken away and what both have make the set up again, in any order; what is put together is met part by part) returns true and leaves its arguments as they were, for every argument.
   Conditions: none but the form's own reach (a slice has fewer than 2^47 bytes). -/
import Derived.Test.YtggelnlbdpdegaaRstArg
import Derived.Test.YtggelnlbdpdegaaRstUni
import Derived.Test.YtggelnlbdpdegaaRstAnd
import Derived.Test.YtggelnlbdpdegaaRstOr
import Derived.Test.YtggelnlbdpdegaaRstMinus
namespace Go.Proofs.Ytggelnlbdpdegaa.rowsetSets
open Go.ChangeShapes Go.WideShapes Go.ChangeAt Go.RowKit
set_option maxRecDepth 100000

set_option maxHeartbeats 16000000 in
theorem walk (N0 : Int) (a0 : Option Addr) (n0 cap0 : Nat) (l0 : List UInt64) (N1 : Int) (a1 : Option Addr) (n1 cap1 : Nat) (l1 : List UInt64) (N2 : Int) (a2 : Option Addr) (n2 cap2 : Nat) (l2 : List UInt64) (w : World)
    (_na0 : -9223372036854775808 ≤ N0) (_nb0 : N0 ≤ 9223372036854775807) (e0 : l0.length = n0) (_ec0 : n0 ≤ cap0) (hn0 : 8 * n0 ≤ 140737488351232) (b0 : Nums w w.heap.size a0 l0)
    (_na1 : -9223372036854775808 ≤ N1) (_nb1 : N1 ≤ 9223372036854775807) (e1 : l1.length = n1) (_ec1 : n1 ≤ cap1) (hn1 : 8 * n1 ≤ 140737488351232) (b1 : Nums w w.heap.size a1 l1)
    (_na2 : -9223372036854775808 ≤ N2) (_nb2 : N2 ≤ 9223372036854775807) (e2 : l2.length = n2) (_ec2 : n2 ≤ cap2) (hn2 : 8 * n2 ≤ 140737488351232) (b2 : Nums w w.heap.size a2 l2) :
    Calls Try.prog 5 #[rval N0 a0 n0 cap0, rval N1 a1 n1 cap1, rval N2 a2 n2 cap2] w fun e w' => e = .returned (.bool true) ∧ Below w.heap.size w w' := by
  by_cases hab : ¬ (Rst.formed N0 l0 = true ∧ Rst.formed N1 l1 = true ∧ N0 = N1)
  · skip
    have x0 := (((RBox.new w N0 a0 n0 cap0).alloc (.cells #[.int .i64 N1, .slice a1 n1 cap1] 26)).alloc (.cells #[.int .i64 N2, .slice a2 n2 cap2] 26))
    have x1 := ((RBox.new (w.alloc (.cells #[.int .i64 N0, .slice a0 n0 cap0] 26)) N1 a1 n1 cap1).alloc (.cells #[.int .i64 N2, .slice a2 n2 cap2] 26))
    have x2 := (RBox.new ((w.alloc (.cells #[.int .i64 N0, .slice a0 n0 cap0] 26)).alloc (.cells #[.int .i64 N1, .slice a1 n1 cap1] 26)) N2 a2 n2 cap2)
    have hbel : Below w.heap.size w (((w.alloc (.cells #[.int .i64 N0, .slice a0 n0 cap0] 26)).alloc (.cells #[.int .i64 N1, .slice a1 n1 cap1] 26)).alloc (.cells #[.int .i64 N2, .slice a2 n2 cap2] 26)) := by
      refine Below.alloc (Below.alloc (Below.alloc (Below.refl _ _) ?_ _) ?_ _) ?_ _ <;> (simp <;> omega)
    rw [show (w.alloc (.cells #[.int .i64 N0, .slice a0 n0 cap0] 26)).heap.size = w.heap.size + 1 by simp] at x1
    rw [show ((w.alloc (.cells #[.int .i64 N0, .slice a0 n0 cap0] 26)).alloc (.cells #[.int .i64 N1, .slice a1 n1 cap1] 26)).heap.size = w.heap.size + 1 + 1 by simp] at x2
    have r0 := (b0.below hbel).wide hbel.size
    have r1 := (b1.below hbel).wide hbel.size
    have r2 := (b2.below hbel).wide hbel.size
    have CA := Lib.hid (fun A1 A2 W h1 h2 => andE N0 N1 A1 A2 n0 n1 cap0 cap1 l0 l1 W e0 e1 (by omega) (by omega) h1 h2 hab)
    have CO := Lib.hid (fun A1 A2 W h1 h2 => orE N0 N1 A1 A2 n0 n1 cap0 cap1 l0 l1 W e0 e1 (by omega) (by omega) h1 h2 hab)
    have CM := Lib.hid (fun A1 A2 W h1 h2 => minusE N0 N1 A1 A2 n0 n1 cap0 cap1 l0 l1 W e0 e1 (by omega) (by omega) h1 h2 hab)
    have CH : Hid (∀ A c W, Nums W W.heap.size A [] → Calls Try.prog 20 #[.agg #[.int .i64 0, .slice A 0 c], .int .i64 0] W fun e w' => e = .returned (.bool false) ∧ Below W.heap.size W w') :=
      fun A c W h => has_any 0 A 0 c W.heap.size [] 0 W rfl (by omega) h (Nat.le_refl _)
    clear e0 e1 e2 hab b0 b1 b2
    unfold rval
    go_enter Try.func5, Try.ntmps5
    go_wp2_with fail
    generalize (((w.alloc (.cells #[.int .i64 N0, .slice a0 n0 cap0] 26)).alloc (.cells #[.int .i64 N1, .slice a1 n1 cap1] 26)).alloc (.cells #[.int .i64 N2, .slice a2 n2 cap2] 26)) = w0 at *
    refine (rstAlive_any w0).mono ?_
    rintro e w1 ⟨rfl, hb⟩
    have x0 := x0.below hb x0.lt
    have x1 := x1.below hb x1.lt
    have x2 := x2.below hb x2.lt
    have r0 := (r0.below hb).wide hb.size
    have r1 := (r1.below hb).wide hb.size
    have r2 := (r2.below hb).wide hb.size
    have hbel := hbel.trans (hb.mono hbel.size)
    clear hb
    obtain ⟨c_x0_0, c_x0_1⟩ := x0.cell
    obtain ⟨c_x1_0, c_x1_1⟩ := x1.cell
    obtain ⟨c_x2_0, c_x2_1⟩ := x2.cell
    go_wp2_with fail
    refine (CA.out _ _ _ r0 r1).mono ?_
    rintro e w2 ⟨A3, c3, rfl, q3, hb⟩
    have x0 := x0.below hb x0.lt
    have x1 := x1.below hb x1.lt
    have x2 := x2.below hb x2.lt
    have r0 := (r0.below hb).wide hb.size
    have r1 := (r1.below hb).wide hb.size
    have r2 := (r2.below hb).wide hb.size
    have hbel := hbel.trans (hb.mono hbel.size)
    clear hb
    have hbA : Below w2.heap.size w2 (w2.alloc (.cells #[.int .i64 0, .slice A3 0 c3] 26)) := (Below.refl _ _).alloc (Nat.le_refl _) _
    have x3N := RBox.new w2 0 A3 0 c3
    have x0 := x0.below hbA x0.lt
    have x1 := x1.below hbA x1.lt
    have x2 := x2.below hbA x2.lt
    have r0 := (r0.below hbA).wide hbA.size
    have r1 := (r1.below hbA).wide hbA.size
    have r2 := (r2.below hbA).wide hbA.size
    have q3 := (q3.below hbA).wide hbA.size
    have hbel := hbel.trans (hbA.mono hbel.size)
    obtain ⟨b_x3, hb_x3⟩ : ∃ b, b = w2.heap.size := ⟨_, rfl⟩
    rw [← hb_x3] at x3N
    have HB_x3 := Lib.hid hb_x3
    have x3 := x3N
    clear hbA x3N hb_x3
    clear c_x0_0 c_x0_1 c_x1_0 c_x1_1 c_x2_0 c_x2_1
    obtain ⟨c_x0_0, c_x0_1⟩ := x0.cell
    obtain ⟨c_x1_0, c_x1_1⟩ := x1.cell
    obtain ⟨c_x2_0, c_x2_1⟩ := x2.cell
    obtain ⟨c_x3_0, c_x3_1⟩ := x3.cell
    go_wp2_with fail
    generalize (w2.alloc (.cells #[.int .i64 0, .slice A3 0 c3] 26)) = w3 at *
    rw [← HB_x3.out]
    refine (CM.out _ _ _ r0 r1).mono ?_
    rintro e w4 ⟨A4, c4, rfl, q4, hb⟩
    have x0 := x0.below hb x0.lt
    have x1 := x1.below hb x1.lt
    have x2 := x2.below hb x2.lt
    have x3 := x3.below hb x3.lt
    have r0 := (r0.below hb).wide hb.size
    have r1 := (r1.below hb).wide hb.size
    have r2 := (r2.below hb).wide hb.size
    have q3 := (q3.below hb).wide hb.size
    have hbel := hbel.trans (hb.mono hbel.size)
    clear hb
    have hbA : Below w4.heap.size w4 (w4.alloc (.cells #[.int .i64 0, .slice A4 0 c4] 26)) := (Below.refl _ _).alloc (Nat.le_refl _) _
    have x4N := RBox.new w4 0 A4 0 c4
    have x0 := x0.below hbA x0.lt
    have x1 := x1.below hbA x1.lt
    have x2 := x2.below hbA x2.lt
    have x3 := x3.below hbA x3.lt
    have r0 := (r0.below hbA).wide hbA.size
    have r1 := (r1.below hbA).wide hbA.size
    have r2 := (r2.below hbA).wide hbA.size
    have q3 := (q3.below hbA).wide hbA.size
    have q4 := (q4.below hbA).wide hbA.size
    have hbel := hbel.trans (hbA.mono hbel.size)
    obtain ⟨b_x4, hb_x4⟩ : ∃ b, b = w4.heap.size := ⟨_, rfl⟩
    rw [← hb_x4] at x4N
    have HB_x4 := Lib.hid hb_x4
    have x4 := x4N
    clear hbA x4N hb_x4
    clear c_x0_0 c_x0_1 c_x1_0 c_x1_1 c_x2_0 c_x2_1 c_x3_0 c_x3_1
    obtain ⟨c_x0_0, c_x0_1⟩ := x0.cell
    obtain ⟨c_x1_0, c_x1_1⟩ := x1.cell
    obtain ⟨c_x2_0, c_x2_1⟩ := x2.cell
    obtain ⟨c_x3_0, c_x3_1⟩ := x3.cell
    obtain ⟨c_x4_0, c_x4_1⟩ := x4.cell
    go_wp2_with fail
    generalize (w4.alloc (.cells #[.int .i64 0, .slice A4 0 c4] 26)) = w5 at *
    rw [← HB_x4.out]
    refine (CO.out _ _ _ r0 r1).mono ?_
    rintro e w6 ⟨A5, c5, rfl, q5, hb⟩
    have x0 := x0.below hb x0.lt
    have x1 := x1.below hb x1.lt
    have x2 := x2.below hb x2.lt
    have x3 := x3.below hb x3.lt
    have x4 := x4.below hb x4.lt
    have r0 := (r0.below hb).wide hb.size
    have r1 := (r1.below hb).wide hb.size
    have r2 := (r2.below hb).wide hb.size
    have q3 := (q3.below hb).wide hb.size
    have q4 := (q4.below hb).wide hb.size
    have hbel := hbel.trans (hb.mono hbel.size)
    clear hb
    have hbA : Below w6.heap.size w6 (w6.alloc (.cells #[.int .i64 0, .slice A5 0 c5] 26)) := (Below.refl _ _).alloc (Nat.le_refl _) _
    have x5N := RBox.new w6 0 A5 0 c5
    have x0 := x0.below hbA x0.lt
    have x1 := x1.below hbA x1.lt
    have x2 := x2.below hbA x2.lt
    have x3 := x3.below hbA x3.lt
    have x4 := x4.below hbA x4.lt
    have r0 := (r0.below hbA).wide hbA.size
    have r1 := (r1.below hbA).wide hbA.size
    have r2 := (r2.below hbA).wide hbA.size
    have q3 := (q3.below hbA).wide hbA.size
    have q4 := (q4.below hbA).wide hbA.size
    have q5 := (q5.below hbA).wide hbA.size
    have hbel := hbel.trans (hbA.mono hbel.size)
    obtain ⟨b_x5, hb_x5⟩ : ∃ b, b = w6.heap.size := ⟨_, rfl⟩
    rw [← hb_x5] at x5N
    have HB_x5 := Lib.hid hb_x5
    have x5 := x5N
    clear hbA x5N hb_x5
    clear c_x0_0 c_x0_1 c_x1_0 c_x1_1 c_x2_0 c_x2_1 c_x3_0 c_x3_1 c_x4_0 c_x4_1
    obtain ⟨c_x0_0, c_x0_1⟩ := x0.cell
    obtain ⟨c_x1_0, c_x1_1⟩ := x1.cell
    obtain ⟨c_x2_0, c_x2_1⟩ := x2.cell
    obtain ⟨c_x3_0, c_x3_1⟩ := x3.cell
    obtain ⟨c_x4_0, c_x4_1⟩ := x4.cell
    obtain ⟨c_x5_0, c_x5_1⟩ := x5.cell
    go_wp2_with fail
    generalize (w6.alloc (.cells #[.int .i64 0, .slice A5 0 c5] 26)) = w7 at *
    rw [← HB_x5.out]
    refine (CH.out _ _ _ q3).mono ?_
    rintro e w8 ⟨rfl, hb⟩
    have x0 := x0.below hb x0.lt
    have x1 := x1.below hb x1.lt
    have x2 := x2.below hb x2.lt
    have x3 := x3.below hb x3.lt
    have x4 := x4.below hb x4.lt
    have x5 := x5.below hb x5.lt
    have r0 := (r0.below hb).wide hb.size
    have r1 := (r1.below hb).wide hb.size
    have r2 := (r2.below hb).wide hb.size
    have q3 := (q3.below hb).wide hb.size
    have q4 := (q4.below hb).wide hb.size
    have q5 := (q5.below hb).wide hb.size
    have hbel := hbel.trans (hb.mono hbel.size)
    clear hb
    clear c_x0_0 c_x0_1 c_x1_0 c_x1_1 c_x2_0 c_x2_1 c_x3_0 c_x3_1 c_x4_0 c_x4_1 c_x5_0 c_x5_1
    go_wp2
    go_ret
    exact ⟨rfl, hbel⟩
  · skip
    obtain ⟨hf0, hf1, hNN⟩ := Classical.not_not.1 hab
    obtain ⟨x, hx4, rfl, rfl⟩ := Rst.formed_iff.1 hf0
    obtain ⟨y, hy4, hN1, rfl⟩ := Rst.formed_iff.1 hf1
    clear hab hf0 hf1
    obtain ⟨n, hn⟩ : ∃ n, n = x.length := ⟨_, rfl⟩
    have hx : x.length = n := hn.symm
    have hy : y.length = n := by omega
    subst hNN
    rw [hx] at hx4 hN1 ⊢
    clear hN1 hy4 hn
    rw [Rst.pack_length, hx] at e0
    rw [Rst.pack_length, hy] at e1
    subst e0 e1
    obtain ⟨K, hK⟩ : ∃ K, K = Rst.need n := ⟨_, rfl⟩
    have hxy : x.length = y.length := hx.trans hy.symm
    have CA := Lib.hid (fun u v hu hv A1 A2 c1 c2 W h1 h2 => andB hx4 u v hu hv A1 A2 c1 c2 W h1 h2)
    have CM := Lib.hid (fun u v hu hv A1 A2 c1 c2 W h1 h2 => minusB hx4 u v hu hv A1 A2 c1 c2 W h1 h2)
    have CO := Lib.hid (fun u v hu hv A1 A2 c1 c2 W h1 h2 => orB hx4 u v hu hv A1 A2 c1 c2 W h1 h2)
    have CS := Lib.hid (fun u v hu hv A1 A2 c1 c2 W h1 h2 he => sameB hx4 u v hu hv A1 A2 c1 c2 W h1 h2 he)
    have CC := Lib.hid (fun u hu A1 c1 W h1 => countB hx4 u hu A1 c1 W h1)
    rw [← hK] at CA CM CO CS CC ⊢
    have HKn := Lib.hid hK
    clear hK
    have x0 := (((RBox.new w (n : Int) a0 K cap0).alloc (.cells #[.int .i64 (n : Int), .slice a1 K cap1] 26)).alloc (.cells #[.int .i64 N2, .slice a2 n2 cap2] 26))
    have x1 := ((RBox.new (w.alloc (.cells #[.int .i64 (n : Int), .slice a0 K cap0] 26)) (n : Int) a1 K cap1).alloc (.cells #[.int .i64 N2, .slice a2 n2 cap2] 26))
    have x2 := (RBox.new ((w.alloc (.cells #[.int .i64 (n : Int), .slice a0 K cap0] 26)).alloc (.cells #[.int .i64 (n : Int), .slice a1 K cap1] 26)) N2 a2 n2 cap2)
    have hbel : Below w.heap.size w (((w.alloc (.cells #[.int .i64 (n : Int), .slice a0 K cap0] 26)).alloc (.cells #[.int .i64 (n : Int), .slice a1 K cap1] 26)).alloc (.cells #[.int .i64 N2, .slice a2 n2 cap2] 26)) := by
      refine Below.alloc (Below.alloc (Below.alloc (Below.refl _ _) ?_ _) ?_ _) ?_ _ <;> (simp <;> omega)
    rw [show (w.alloc (.cells #[.int .i64 (n : Int), .slice a0 K cap0] 26)).heap.size = w.heap.size + 1 by simp] at x1
    rw [show ((w.alloc (.cells #[.int .i64 (n : Int), .slice a0 K cap0] 26)).alloc (.cells #[.int .i64 (n : Int), .slice a1 K cap1] 26)).heap.size = w.heap.size + 1 + 1 by simp] at x2
    have r0 := (b0.below hbel).wide hbel.size
    have r1 := (b1.below hbel).wide hbel.size
    have r2 := (b2.below hbel).wide hbel.size
    obtain ⟨p, hp⟩ : ∃ p, p = List.zipWith (fun a b => a && b) x y := ⟨_, rfl⟩
    obtain ⟨m, hm⟩ : ∃ m, m = List.zipWith (fun a b => a && !b) x y := ⟨_, rfl⟩
    obtain ⟨o, ho⟩ : ∃ o, o = List.zipWith (fun a b => a || b) x y := ⟨_, rfl⟩
    have hpl : p.length = n := by rw [hp]; exact zip_len hx hy
    have hml : m.length = n := by rw [hm]; exact zip_len hx hy
    have hol : o.length = n := by rw [ho]; exact zip_len hx hy
    have P1 := CA.out x y hx hy
    have P2 := CM.out x y hx hy
    have P3 := CO.out x y hx hy
    rw [← hp] at P1
    rw [← hm] at P2
    rw [← ho] at P3
    replace P1 := Lib.hid P1
    replace P2 := Lib.hid P2
    replace P3 := Lib.hid P3
    have P4 := CO.out m p hml hpl
    rw [hm, hp, zip_whole hxy, ← hm, ← hp] at P4
    replace P4 := Lib.hid P4
    have P5 := CO.out y x hy hx
    rw [zip_back, ← ho] at P5
    replace P5 := Lib.hid P5
    have Hsum : ones p + ones o = ones x + ones y := by rw [hp, ho]; exact ones_and_or hxy
    have Hp := Lib.hid hp
    have Ho := Lib.hid ho
    clear hp hm ho CM b0 b1 b2 hxy
    unfold rval
    go_enter Try.func5, Try.ntmps5
    go_wp2_with fail
    generalize (((w.alloc (.cells #[.int .i64 (n : Int), .slice a0 K cap0] 26)).alloc (.cells #[.int .i64 (n : Int), .slice a1 K cap1] 26)).alloc (.cells #[.int .i64 N2, .slice a2 n2 cap2] 26)) = w0 at *
    refine (rstAlive_any w0).mono ?_
    rintro e w1 ⟨rfl, hb⟩
    have x0 := x0.below hb x0.lt
    have x1 := x1.below hb x1.lt
    have x2 := x2.below hb x2.lt
    have r0 := (r0.below hb).wide hb.size
    have r1 := (r1.below hb).wide hb.size
    have r2 := (r2.below hb).wide hb.size
    have hbel := hbel.trans (hb.mono hbel.size)
    clear hb
    obtain ⟨c_x0_0, c_x0_1⟩ := x0.cell
    obtain ⟨c_x1_0, c_x1_1⟩ := x1.cell
    obtain ⟨c_x2_0, c_x2_1⟩ := x2.cell
    go_wp2_with fail
    refine (P1.out _ _ _ _ _ r0 r1).mono ?_
    rintro e w2 ⟨A3, c3, rfl, q3, hb⟩
    have x0 := x0.below hb x0.lt
    have x1 := x1.below hb x1.lt
    have x2 := x2.below hb x2.lt
    have r0 := (r0.below hb).wide hb.size
    have r1 := (r1.below hb).wide hb.size
    have r2 := (r2.below hb).wide hb.size
    have hbel := hbel.trans (hb.mono hbel.size)
    clear hb
    have hbA : Below w2.heap.size w2 (w2.alloc (.cells #[.int .i64 (n : Int), .slice A3 K c3] 26)) := (Below.refl _ _).alloc (Nat.le_refl _) _
    have x3N := RBox.new w2 (n : Int) A3 K c3
    have x0 := x0.below hbA x0.lt
    have x1 := x1.below hbA x1.lt
    have x2 := x2.below hbA x2.lt
    have r0 := (r0.below hbA).wide hbA.size
    have r1 := (r1.below hbA).wide hbA.size
    have r2 := (r2.below hbA).wide hbA.size
    have q3 := (q3.below hbA).wide hbA.size
    have hbel := hbel.trans (hbA.mono hbel.size)
    obtain ⟨b_x3, hb_x3⟩ : ∃ b, b = w2.heap.size := ⟨_, rfl⟩
    rw [← hb_x3] at x3N
    have HB_x3 := Lib.hid hb_x3
    have x3 := x3N
    clear hbA x3N hb_x3
    clear c_x0_0 c_x0_1 c_x1_0 c_x1_1 c_x2_0 c_x2_1
    obtain ⟨c_x0_0, c_x0_1⟩ := x0.cell
    obtain ⟨c_x1_0, c_x1_1⟩ := x1.cell
    obtain ⟨c_x2_0, c_x2_1⟩ := x2.cell
    obtain ⟨c_x3_0, c_x3_1⟩ := x3.cell
    go_wp2_with fail
    generalize (w2.alloc (.cells #[.int .i64 (n : Int), .slice A3 K c3] 26)) = w3 at *
    rw [← HB_x3.out]
    refine (P2.out _ _ _ _ _ r0 r1).mono ?_
    rintro e w4 ⟨A4, c4, rfl, q4, hb⟩
    have x0 := x0.below hb x0.lt
    have x1 := x1.below hb x1.lt
    have x2 := x2.below hb x2.lt
    have x3 := x3.below hb x3.lt
    have r0 := (r0.below hb).wide hb.size
    have r1 := (r1.below hb).wide hb.size
    have r2 := (r2.below hb).wide hb.size
    have q3 := (q3.below hb).wide hb.size
    have hbel := hbel.trans (hb.mono hbel.size)
    clear hb
    have hbA : Below w4.heap.size w4 (w4.alloc (.cells #[.int .i64 (n : Int), .slice A4 K c4] 26)) := (Below.refl _ _).alloc (Nat.le_refl _) _
    have x4N := RBox.new w4 (n : Int) A4 K c4
    have x0 := x0.below hbA x0.lt
    have x1 := x1.below hbA x1.lt
    have x2 := x2.below hbA x2.lt
    have x3 := x3.below hbA x3.lt
    have r0 := (r0.below hbA).wide hbA.size
    have r1 := (r1.below hbA).wide hbA.size
    have r2 := (r2.below hbA).wide hbA.size
    have q3 := (q3.below hbA).wide hbA.size
    have q4 := (q4.below hbA).wide hbA.size
    have hbel := hbel.trans (hbA.mono hbel.size)
    obtain ⟨b_x4, hb_x4⟩ : ∃ b, b = w4.heap.size := ⟨_, rfl⟩
    rw [← hb_x4] at x4N
    have HB_x4 := Lib.hid hb_x4
    have x4 := x4N
    clear hbA x4N hb_x4
    clear c_x0_0 c_x0_1 c_x1_0 c_x1_1 c_x2_0 c_x2_1 c_x3_0 c_x3_1
    obtain ⟨c_x0_0, c_x0_1⟩ := x0.cell
    obtain ⟨c_x1_0, c_x1_1⟩ := x1.cell
    obtain ⟨c_x2_0, c_x2_1⟩ := x2.cell
    obtain ⟨c_x3_0, c_x3_1⟩ := x3.cell
    obtain ⟨c_x4_0, c_x4_1⟩ := x4.cell
    go_wp2_with fail
    generalize (w4.alloc (.cells #[.int .i64 (n : Int), .slice A4 K c4] 26)) = w5 at *
    rw [← HB_x4.out]
    refine (P3.out _ _ _ _ _ r0 r1).mono ?_
    rintro e w6 ⟨A5, c5, rfl, q5, hb⟩
    have x0 := x0.below hb x0.lt
    have x1 := x1.below hb x1.lt
    have x2 := x2.below hb x2.lt
    have x3 := x3.below hb x3.lt
    have x4 := x4.below hb x4.lt
    have r0 := (r0.below hb).wide hb.size
    have r1 := (r1.below hb).wide hb.size
    have r2 := (r2.below hb).wide hb.size
    have q3 := (q3.below hb).wide hb.size
    have q4 := (q4.below hb).wide hb.size
    have hbel := hbel.trans (hb.mono hbel.size)
    clear hb
    have hbA : Below w6.heap.size w6 (w6.alloc (.cells #[.int .i64 (n : Int), .slice A5 K c5] 26)) := (Below.refl _ _).alloc (Nat.le_refl _) _
    have x5N := RBox.new w6 (n : Int) A5 K c5
    have x0 := x0.below hbA x0.lt
    have x1 := x1.below hbA x1.lt
    have x2 := x2.below hbA x2.lt
    have x3 := x3.below hbA x3.lt
    have x4 := x4.below hbA x4.lt
    have r0 := (r0.below hbA).wide hbA.size
    have r1 := (r1.below hbA).wide hbA.size
    have r2 := (r2.below hbA).wide hbA.size
    have q3 := (q3.below hbA).wide hbA.size
    have q4 := (q4.below hbA).wide hbA.size
    have q5 := (q5.below hbA).wide hbA.size
    have hbel := hbel.trans (hbA.mono hbel.size)
    obtain ⟨b_x5, hb_x5⟩ : ∃ b, b = w6.heap.size := ⟨_, rfl⟩
    rw [← hb_x5] at x5N
    have HB_x5 := Lib.hid hb_x5
    have x5 := x5N
    clear hbA x5N hb_x5
    clear c_x0_0 c_x0_1 c_x1_0 c_x1_1 c_x2_0 c_x2_1 c_x3_0 c_x3_1 c_x4_0 c_x4_1
    obtain ⟨c_x0_0, c_x0_1⟩ := x0.cell
    obtain ⟨c_x1_0, c_x1_1⟩ := x1.cell
    obtain ⟨c_x2_0, c_x2_1⟩ := x2.cell
    obtain ⟨c_x3_0, c_x3_1⟩ := x3.cell
    obtain ⟨c_x4_0, c_x4_1⟩ := x4.cell
    obtain ⟨c_x5_0, c_x5_1⟩ := x5.cell
    go_wp2_with fail
    generalize (w6.alloc (.cells #[.int .i64 (n : Int), .slice A5 K c5] 26)) = w7 at *
    rw [← HB_x5.out]
    refine (P4.out _ _ _ _ _ q4 q3).mono ?_
    rintro e w8 ⟨A6, c6, rfl, q6, hb⟩
    have x0 := x0.below hb x0.lt
    have x1 := x1.below hb x1.lt
    have x2 := x2.below hb x2.lt
    have x3 := x3.below hb x3.lt
    have x4 := x4.below hb x4.lt
    have x5 := x5.below hb x5.lt
    have r0 := (r0.below hb).wide hb.size
    have r1 := (r1.below hb).wide hb.size
    have r2 := (r2.below hb).wide hb.size
    have q3 := (q3.below hb).wide hb.size
    have q4 := (q4.below hb).wide hb.size
    have q5 := (q5.below hb).wide hb.size
    have hbel := hbel.trans (hb.mono hbel.size)
    clear hb
    have hbA : Below w8.heap.size w8 (w8.alloc (.cells #[.int .i64 (n : Int), .slice A6 K c6] 26)) := (Below.refl _ _).alloc (Nat.le_refl _) _
    have x6N := RBox.new w8 (n : Int) A6 K c6
    have x0 := x0.below hbA x0.lt
    have x1 := x1.below hbA x1.lt
    have x2 := x2.below hbA x2.lt
    have x3 := x3.below hbA x3.lt
    have x4 := x4.below hbA x4.lt
    have x5 := x5.below hbA x5.lt
    have r0 := (r0.below hbA).wide hbA.size
    have r1 := (r1.below hbA).wide hbA.size
    have r2 := (r2.below hbA).wide hbA.size
    have q3 := (q3.below hbA).wide hbA.size
    have q4 := (q4.below hbA).wide hbA.size
    have q5 := (q5.below hbA).wide hbA.size
    have q6 := (q6.below hbA).wide hbA.size
    have hbel := hbel.trans (hbA.mono hbel.size)
    obtain ⟨b_x6, hb_x6⟩ : ∃ b, b = w8.heap.size := ⟨_, rfl⟩
    rw [← hb_x6] at x6N
    have HB_x6 := Lib.hid hb_x6
    have x6 := x6N
    clear hbA x6N hb_x6
    clear c_x0_0 c_x0_1 c_x1_0 c_x1_1 c_x2_0 c_x2_1 c_x3_0 c_x3_1 c_x4_0 c_x4_1 c_x5_0 c_x5_1
    obtain ⟨c_x0_0, c_x0_1⟩ := x0.cell
    obtain ⟨c_x1_0, c_x1_1⟩ := x1.cell
    obtain ⟨c_x2_0, c_x2_1⟩ := x2.cell
    obtain ⟨c_x3_0, c_x3_1⟩ := x3.cell
    obtain ⟨c_x4_0, c_x4_1⟩ := x4.cell
    obtain ⟨c_x5_0, c_x5_1⟩ := x5.cell
    obtain ⟨c_x6_0, c_x6_1⟩ := x6.cell
    go_wp2_with fail
    generalize (w8.alloc (.cells #[.int .i64 (n : Int), .slice A6 K c6] 26)) = w9 at *
    rw [← HB_x6.out]
    refine (P5.out _ _ _ _ _ r1 r0).mono ?_
    rintro e w10 ⟨A7, c7, rfl, q7, hb⟩
    have x0 := x0.below hb x0.lt
    have x1 := x1.below hb x1.lt
    have x2 := x2.below hb x2.lt
    have x3 := x3.below hb x3.lt
    have x4 := x4.below hb x4.lt
    have x5 := x5.below hb x5.lt
    have x6 := x6.below hb x6.lt
    have r0 := (r0.below hb).wide hb.size
    have r1 := (r1.below hb).wide hb.size
    have r2 := (r2.below hb).wide hb.size
    have q3 := (q3.below hb).wide hb.size
    have q4 := (q4.below hb).wide hb.size
    have q5 := (q5.below hb).wide hb.size
    have q6 := (q6.below hb).wide hb.size
    have hbel := hbel.trans (hb.mono hbel.size)
    clear hb
    have hbA : Below w10.heap.size w10 (w10.alloc (.cells #[.int .i64 (n : Int), .slice A7 K c7] 26)) := (Below.refl _ _).alloc (Nat.le_refl _) _
    have x7N := RBox.new w10 (n : Int) A7 K c7
    have x0 := x0.below hbA x0.lt
    have x1 := x1.below hbA x1.lt
    have x2 := x2.below hbA x2.lt
    have x3 := x3.below hbA x3.lt
    have x4 := x4.below hbA x4.lt
    have x5 := x5.below hbA x5.lt
    have x6 := x6.below hbA x6.lt
    have r0 := (r0.below hbA).wide hbA.size
    have r1 := (r1.below hbA).wide hbA.size
    have r2 := (r2.below hbA).wide hbA.size
    have q3 := (q3.below hbA).wide hbA.size
    have q4 := (q4.below hbA).wide hbA.size
    have q5 := (q5.below hbA).wide hbA.size
    have q6 := (q6.below hbA).wide hbA.size
    have q7 := (q7.below hbA).wide hbA.size
    have hbel := hbel.trans (hbA.mono hbel.size)
    obtain ⟨b_x7, hb_x7⟩ : ∃ b, b = w10.heap.size := ⟨_, rfl⟩
    rw [← hb_x7] at x7N
    have HB_x7 := Lib.hid hb_x7
    have x7 := x7N
    clear hbA x7N hb_x7
    clear c_x0_0 c_x0_1 c_x1_0 c_x1_1 c_x2_0 c_x2_1 c_x3_0 c_x3_1 c_x4_0 c_x4_1 c_x5_0 c_x5_1 c_x6_0 c_x6_1
    obtain ⟨c_x0_0, c_x0_1⟩ := x0.cell
    obtain ⟨c_x1_0, c_x1_1⟩ := x1.cell
    obtain ⟨c_x2_0, c_x2_1⟩ := x2.cell
    obtain ⟨c_x3_0, c_x3_1⟩ := x3.cell
    obtain ⟨c_x4_0, c_x4_1⟩ := x4.cell
    obtain ⟨c_x5_0, c_x5_1⟩ := x5.cell
    obtain ⟨c_x6_0, c_x6_1⟩ := x6.cell
    obtain ⟨c_x7_0, c_x7_1⟩ := x7.cell
    go_wp2_with fail
    generalize (w10.alloc (.cells #[.int .i64 (n : Int), .slice A7 K c7] 26)) = w11 at *
    rw [← HB_x7.out]
    have hBel : Below w11.heap.size w11 w11 := Below.refl _ _
    have HK := Lib.hid (fun W' (h : Below w11.heap.size w11 W') =>
      (⟨(x6.below h x6.lt).cell.1, (x6.below h x6.lt).cell.2, (x0.below h x0.lt).cell.1, (x0.below h x0.lt).cell.2, (x7.below h x7.lt).cell.1, (x7.below h x7.lt).cell.2, (x5.below h x5.lt).cell.1, (x5.below h x5.lt).cell.2, (x3.below h x3.lt).cell.1, (x3.below h x3.lt).cell.2, (x1.below h x1.lt).cell.1, (x1.below h x1.lt).cell.2⟩ : W'.cell? ⟨b_x6, 0, none⟩ = some (.int .i64 (n : Int)) ∧ W'.cell? ⟨b_x6, 1, none⟩ = some (.slice A6 K c6) ∧ W'.cell? ⟨w.heap.size, 0, none⟩ = some (.int .i64 (n : Int)) ∧ W'.cell? ⟨w.heap.size, 1, none⟩ = some (.slice a0 K cap0) ∧ W'.cell? ⟨b_x7, 0, none⟩ = some (.int .i64 (n : Int)) ∧ W'.cell? ⟨b_x7, 1, none⟩ = some (.slice A7 K c7) ∧ W'.cell? ⟨b_x5, 0, none⟩ = some (.int .i64 (n : Int)) ∧ W'.cell? ⟨b_x5, 1, none⟩ = some (.slice A5 K c5) ∧ W'.cell? ⟨b_x3, 0, none⟩ = some (.int .i64 (n : Int)) ∧ W'.cell? ⟨b_x3, 1, none⟩ = some (.slice A3 K c3) ∧ W'.cell? ⟨w.heap.size + 1, 0, none⟩ = some (.int .i64 (n : Int)) ∧ W'.cell? ⟨w.heap.size + 1, 1, none⟩ = some (.slice a1 K cap1)))
    obtain ⟨T, hT⟩ : ∃ T : Nat, T = ones x + ones y := ⟨_, rfl⟩
    have le1 := ones_le p
    have le2 := ones_le o
    have le3 := ones_le x
    have le4 := ones_le y
    have s1 : IntKind.i64.wrap ((ones p : Int) + (ones o : Int)) = (T : Int) := by rw [IntKind.wrap_i64]; omega
    have s2 : IntKind.i64.wrap ((ones x : Int) + (ones y : Int)) = (T : Int) := by rw [IntKind.wrap_i64]; omega
    have hTT : ((T : Int) != (T : Int)) = false := by simp
    clear hT Hsum
    replace hBel := hBel.drew
    refine wp_region_held_drew (S := fun W' => W'.cell? ⟨b_x6, 0, none⟩ = some (.int .i64 (n : Int)) ∧ W'.cell? ⟨b_x6, 1, none⟩ = some (.slice A6 K c6) ∧ W'.cell? ⟨w.heap.size, 0, none⟩ = some (.int .i64 (n : Int)) ∧ W'.cell? ⟨w.heap.size, 1, none⟩ = some (.slice a0 K cap0) ∧ W'.cell? ⟨b_x7, 0, none⟩ = some (.int .i64 (n : Int)) ∧ W'.cell? ⟨b_x7, 1, none⟩ = some (.slice A7 K c7) ∧ W'.cell? ⟨b_x5, 0, none⟩ = some (.int .i64 (n : Int)) ∧ W'.cell? ⟨b_x5, 1, none⟩ = some (.slice A5 K c5) ∧ W'.cell? ⟨b_x3, 0, none⟩ = some (.int .i64 (n : Int)) ∧ W'.cell? ⟨b_x3, 1, none⟩ = some (.slice A3 K c3) ∧ W'.cell? ⟨w.heap.size + 1, 0, none⟩ = some (.int .i64 (n : Int)) ∧ W'.cell? ⟨w.heap.size + 1, 1, none⟩ = some (.slice a1 K cap1)) (by kernel_rfl) (HK.out _ hBel) (fun hHeld => ?_)
    change wpAnyH _ _ _ _ _ 31 #[false, false, false, false, false, false, false, false, false, false, false, false, false, false, false, false, false, false, false, false, false, false, false, false, false, false, false, false, false, false, false] _ _
    generalize w11.drew = wD at *
    refine wpAnyH_take (i := 0) (oi := { dst := some 80, op := _, type := _, pos := _, after := _, guard := _ }) (v := (.int .i64 0)) rfl (by kernel_rfl) (by kernel_rfl) (by kernel_rfl) (fun _ _ _ h => h) (Or.inl ⟨by rfl, fun _ _ => rfl⟩) (by assumption) ?_
    simp only [Act.put, List.setIfInBounds_toArray, List.set_cons_zero, List.set_cons_succ]
    refine wpAnyH_take (i := 1) (oi := { dst := some 81, op := _, type := _, pos := _, after := _, guard := _ }) (v := (.bool false)) rfl (by kernel_rfl) (by kernel_rfl) (by kernel_rfl) (fun _ _ _ h => h) (Or.inl ⟨by rfl, by intro w hSw; (try dsimp only at hSw); go_simp⟩) (by assumption) ?_
    simp only [Act.put, List.setIfInBounds_toArray, List.set_cons_zero, List.set_cons_succ]
    refine wpAnyH_take (i := 2) (oi := { dst := some 82, op := _, type := _, pos := _, after := _, guard := _ }) (v := (.bool false)) rfl (by kernel_rfl) (by kernel_rfl) (by kernel_rfl) (fun _ _ _ h => h) (Or.inl ⟨by rfl, fun _ _ => rfl⟩) (by assumption) ?_
    simp only [Act.put, List.setIfInBounds_toArray, List.set_cons_zero, List.set_cons_succ]
    refine wpAnyH_take (i := 3) (oi := { dst := some 83, op := _, type := _, pos := _, after := _, guard := _ }) (v := (.int .i64 0)) rfl (by kernel_rfl) (by kernel_rfl) (by kernel_rfl) (fun _ _ _ h => h) (Or.inl ⟨by rfl, fun _ _ => rfl⟩) (by assumption) ?_
    simp only [Act.put, List.setIfInBounds_toArray, List.set_cons_zero, List.set_cons_succ]
    refine wpAnyH_take (i := 4) (oi := { dst := some 84, op := _, type := _, pos := _, after := _, guard := _ }) (v := (.bool false)) rfl (by kernel_rfl) (by kernel_rfl) (by kernel_rfl) (fun _ _ _ h => h) (Or.inl ⟨by rfl, by intro w hSw; (try dsimp only at hSw); go_simp⟩) (by assumption) ?_
    simp only [Act.put, List.setIfInBounds_toArray, List.set_cons_zero, List.set_cons_succ]
    refine wpAnyH_take (i := 5) (oi := { dst := some 85, op := _, type := _, pos := _, after := _, guard := _ }) (v := (.bool false)) rfl (by kernel_rfl) (by kernel_rfl) (by kernel_rfl) (fun _ _ _ h => h) (Or.inl ⟨by rfl, fun _ _ => rfl⟩) (by assumption) ?_
    simp only [Act.put, List.setIfInBounds_toArray, List.set_cons_zero, List.set_cons_succ]
    refine wpAnyH_take (i := 6) (oi := { dst := some 86, op := _, type := _, pos := _, after := _, guard := _ }) (v := (.bool false)) rfl (by kernel_rfl) (by kernel_rfl) (by kernel_rfl) (fun _ _ _ h => h) (Or.inl ⟨by rfl, fun _ _ => rfl⟩) (by assumption) ?_
    simp only [Act.put, List.setIfInBounds_toArray, List.set_cons_zero, List.set_cons_succ]
    refine wpAnyH_take (i := 7) (oi := { dst := some 87, op := _, type := _, pos := _, after := _, guard := _ }) (v := (.agg #[.int .i64 (n : Int), .slice A6 K c6])) rfl (by kernel_rfl) (by kernel_rfl) (by kernel_rfl) (fun _ _ _ h => h) (Or.inl ⟨by rfl, by intro w hSw; (try dsimp only at hSw); go_simp⟩) (by assumption) ?_
    simp only [Act.put, List.setIfInBounds_toArray, List.set_cons_zero, List.set_cons_succ]
    refine wpAnyH_take (i := 8) (oi := { dst := some 88, op := _, type := _, pos := _, after := _, guard := _ }) (v := (.agg #[.int .i64 (n : Int), .slice a0 K cap0])) rfl (by kernel_rfl) (by kernel_rfl) (by kernel_rfl) (fun _ _ _ h => h) (Or.inl ⟨by rfl, by intro w hSw; (try dsimp only at hSw); go_simp⟩) (by assumption) ?_
    simp only [Act.put, List.setIfInBounds_toArray, List.set_cons_zero, List.set_cons_succ]
    refine wpAnyH_ready (rs := [9]) (by kernel_rfl) (by simp) ?_
    refine AllReadyH.cons (o := { dst := some 89, op := _, type := _, pos := _, after := _, guard := _ }) rfl (fun KK hK => ?_) ?_
    · go_simp
      refine (CS.out x x hx hx A6 a0 c6 cap0 _ ((q6.below hBel).wide hBel.size) ((r0.below hBel).wide hBel.size) rfl).mono ?_
      rintro e wq ⟨rfl, hq⟩
      go_wp2_with fail
      replace hBel := hBel.trans (hq.mono hBel.size)
      clear hq
      refine hK.out _ _ (HK.out _ hBel) (fun hHeld => ?_)
      clear hK KK
      simp only [List.setIfInBounds_toArray, List.set_cons_zero, List.set_cons_succ]
      refine wpAnyH_take (i := 10) (oi := { dst := some 90, op := _, type := _, pos := _, after := _, guard := _ }) (v := (.bool false)) rfl (by kernel_rfl) (by kernel_rfl) (by kernel_rfl) (fun _ _ _ h => h) (Or.inl ⟨by rfl, by intro w hSw; (try dsimp only at hSw); go_simp⟩) (by assumption) ?_
      simp only [Act.put, List.setIfInBounds_toArray, List.set_cons_zero, List.set_cons_succ]
      refine wpAnyH_take (i := 11) (oi := { dst := some 91, op := _, type := _, pos := _, after := _, guard := _ }) (v := (.bool false)) rfl (by kernel_rfl) (by kernel_rfl) (by kernel_rfl) (fun _ _ _ h => h) (Or.inl ⟨by rfl, fun _ _ => rfl⟩) (by assumption) ?_
      simp only [Act.put, List.setIfInBounds_toArray, List.set_cons_zero, List.set_cons_succ]
      refine wpAnyH_take (i := 12) (oi := { dst := some 92, op := _, type := _, pos := _, after := _, guard := _ }) (v := (.bool false)) rfl (by kernel_rfl) (by kernel_rfl) (by kernel_rfl) (fun _ _ _ h => h) (Or.inl ⟨by rfl, fun _ _ => rfl⟩) (by assumption) ?_
      simp only [Act.put, List.setIfInBounds_toArray, List.set_cons_zero, List.set_cons_succ]
      refine wpAnyH_take (i := 13) (oi := { dst := some 93, op := _, type := _, pos := _, after := _, guard := _ }) (v := (.agg #[.int .i64 (n : Int), .slice A7 K c7])) rfl (by kernel_rfl) (by kernel_rfl) (by kernel_rfl) (fun _ _ _ h => h) (Or.inl ⟨by rfl, by intro w hSw; (try dsimp only at hSw); go_simp⟩) (by assumption) ?_
      simp only [Act.put, List.setIfInBounds_toArray, List.set_cons_zero, List.set_cons_succ]
      refine wpAnyH_take (i := 14) (oi := { dst := some 94, op := _, type := _, pos := _, after := _, guard := _ }) (v := (.agg #[.int .i64 (n : Int), .slice A5 K c5])) rfl (by kernel_rfl) (by kernel_rfl) (by kernel_rfl) (fun _ _ _ h => h) (Or.inl ⟨by rfl, by intro w hSw; (try dsimp only at hSw); go_simp⟩) (by assumption) ?_
      simp only [Act.put, List.setIfInBounds_toArray, List.set_cons_zero, List.set_cons_succ]
      refine wpAnyH_ready (rs := [15]) (by kernel_rfl) (by simp) ?_
      refine AllReadyH.cons (o := { dst := some 95, op := _, type := _, pos := _, after := _, guard := _ }) rfl (fun KK hK => ?_) ?_
      · go_simp
        refine (CS.out o o hol hol A7 A5 c7 c5 _ ((q7.below hBel).wide hBel.size) ((q5.below hBel).wide hBel.size) rfl).mono ?_
        rintro e wq ⟨rfl, hq⟩
        go_wp2_with fail
        replace hBel := hBel.trans (hq.mono hBel.size)
        clear hq
        refine hK.out _ _ (HK.out _ hBel) (fun hHeld => ?_)
        clear hK KK
        simp only [List.setIfInBounds_toArray, List.set_cons_zero, List.set_cons_succ]
        refine wpAnyH_take (i := 16) (oi := { dst := some 96, op := _, type := _, pos := _, after := _, guard := _ }) (v := (.bool false)) rfl (by kernel_rfl) (by kernel_rfl) (by kernel_rfl) (fun _ _ _ h => h) (Or.inl ⟨by rfl, by intro w hSw; (try dsimp only at hSw); go_simp⟩) (by assumption) ?_
        simp only [Act.put, List.setIfInBounds_toArray, List.set_cons_zero, List.set_cons_succ]
        refine wpAnyH_take (i := 17) (oi := { dst := some 97, op := _, type := _, pos := _, after := _, guard := _ }) (v := (.bool false)) rfl (by kernel_rfl) (by kernel_rfl) (by kernel_rfl) (fun _ _ _ h => h) (Or.inl ⟨by rfl, fun _ _ => rfl⟩) (by assumption) ?_
        simp only [Act.put, List.setIfInBounds_toArray, List.set_cons_zero, List.set_cons_succ]
        refine wpAnyH_take (i := 18) (oi := { dst := some 98, op := _, type := _, pos := _, after := _, guard := _ }) (v := (.bool false)) rfl (by kernel_rfl) (by kernel_rfl) (by kernel_rfl) (fun _ _ _ h => h) (Or.inl ⟨by rfl, fun _ _ => rfl⟩) (by assumption) ?_
        simp only [Act.put, List.setIfInBounds_toArray, List.set_cons_zero, List.set_cons_succ]
        refine wpAnyH_take (i := 19) (oi := { dst := some 99, op := _, type := _, pos := _, after := _, guard := _ }) (v := (.agg #[.int .i64 (n : Int), .slice A3 K c3])) rfl (by kernel_rfl) (by kernel_rfl) (by kernel_rfl) (fun _ _ _ h => h) (Or.inl ⟨by rfl, by intro w hSw; (try dsimp only at hSw); go_simp⟩) (by assumption) ?_
        simp only [Act.put, List.setIfInBounds_toArray, List.set_cons_zero, List.set_cons_succ]
        refine wpAnyH_take (i := 21) (oi := { dst := some 101, op := _, type := _, pos := _, after := _, guard := _ }) (v := (.agg #[.int .i64 (n : Int), .slice A5 K c5])) rfl (by kernel_rfl) (by kernel_rfl) (by kernel_rfl) (fun _ _ _ h => h) (Or.inl ⟨by rfl, by intro w hSw; (try dsimp only at hSw); go_simp⟩) (by assumption) ?_
        simp only [Act.put, List.setIfInBounds_toArray, List.set_cons_zero, List.set_cons_succ]
        refine wpAnyH_take (i := 24) (oi := { dst := some 104, op := _, type := _, pos := _, after := _, guard := _ }) (v := (.agg #[.int .i64 (n : Int), .slice a0 K cap0])) rfl (by kernel_rfl) (by kernel_rfl) (by kernel_rfl) (fun _ _ _ h => h) (Or.inl ⟨by rfl, by intro w hSw; (try dsimp only at hSw); go_simp⟩) (by assumption) ?_
        simp only [Act.put, List.setIfInBounds_toArray, List.set_cons_zero, List.set_cons_succ]
        refine wpAnyH_take (i := 26) (oi := { dst := some 106, op := _, type := _, pos := _, after := _, guard := _ }) (v := (.agg #[.int .i64 (n : Int), .slice a1 K cap1])) rfl (by kernel_rfl) (by kernel_rfl) (by kernel_rfl) (fun _ _ _ h => h) (Or.inl ⟨by rfl, by intro w hSw; (try dsimp only at hSw); go_simp⟩) (by assumption) ?_
        simp only [Act.put, List.setIfInBounds_toArray, List.set_cons_zero, List.set_cons_succ]
        refine wpAnyH_ready (rs := [20]) (by kernel_rfl) (by simp) ?_
        refine AllReadyH.cons (o := { dst := some 100, op := _, type := _, pos := _, after := _, guard := _ }) rfl (fun KK hK => ?_) ?_
        · go_simp
          refine (CC.out p hpl A3 c3 _ ((q3.below hBel).wide hBel.size)).mono ?_
          rintro e wq ⟨rfl, hq⟩
          go_wp2_with fail
          replace hBel := hBel.trans (hq.mono hBel.size)
          clear hq
          refine hK.out _ _ (HK.out _ hBel) (fun hHeld => ?_)
          clear hK KK
          simp only [List.setIfInBounds_toArray, List.set_cons_zero, List.set_cons_succ]
          refine wpAnyH_ready (rs := [22]) (by kernel_rfl) (by simp) ?_
          refine AllReadyH.cons (o := { dst := some 102, op := _, type := _, pos := _, after := _, guard := _ }) rfl (fun KK hK => ?_) ?_
          · go_simp
            refine (CC.out o hol A5 c5 _ ((q5.below hBel).wide hBel.size)).mono ?_
            rintro e wq ⟨rfl, hq⟩
            go_wp2_with fail
            replace hBel := hBel.trans (hq.mono hBel.size)
            clear hq
            refine hK.out _ _ (HK.out _ hBel) (fun hHeld => ?_)
            clear hK KK
            simp only [List.setIfInBounds_toArray, List.set_cons_zero, List.set_cons_succ]
            refine wpAnyH_take (i := 23) (oi := { dst := some 103, op := _, type := _, pos := _, after := _, guard := _ }) (v := (.int .i64 (T : Int))) rfl (by kernel_rfl) (by kernel_rfl) (by kernel_rfl) (fun _ _ _ h => h) (Or.inl ⟨by rfl, by intro w hSw; (try dsimp only at hSw); go_simp⟩) (by assumption) ?_
            simp only [Act.put, List.setIfInBounds_toArray, List.set_cons_zero, List.set_cons_succ]
            refine wpAnyH_ready (rs := [25]) (by kernel_rfl) (by simp) ?_
            refine AllReadyH.cons (o := { dst := some 105, op := _, type := _, pos := _, after := _, guard := _ }) rfl (fun KK hK => ?_) ?_
            · go_simp
              refine (CC.out x hx a0 cap0 _ ((r0.below hBel).wide hBel.size)).mono ?_
              rintro e wq ⟨rfl, hq⟩
              go_wp2_with fail
              replace hBel := hBel.trans (hq.mono hBel.size)
              clear hq
              refine hK.out _ _ (HK.out _ hBel) (fun hHeld => ?_)
              clear hK KK
              simp only [List.setIfInBounds_toArray, List.set_cons_zero, List.set_cons_succ]
              refine wpAnyH_ready (rs := [27]) (by kernel_rfl) (by simp) ?_
              refine AllReadyH.cons (o := { dst := some 107, op := _, type := _, pos := _, after := _, guard := _ }) rfl (fun KK hK => ?_) ?_
              · go_simp
                refine (CC.out y hy a1 cap1 _ ((r1.below hBel).wide hBel.size)).mono ?_
                rintro e w12 ⟨rfl, hq⟩
                go_wp2_with fail
                replace hBel := hBel.trans (hq.mono hBel.size)
                clear hq
                refine hK.out _ _ (HK.out _ hBel) (fun hHeld => ?_)
                clear hK KK
                simp only [List.setIfInBounds_toArray, List.set_cons_zero, List.set_cons_succ]
                refine wpAnyH_take (i := 28) (oi := { dst := some 108, op := _, type := _, pos := _, after := _, guard := _ }) (v := (.int .i64 (T : Int))) rfl (by kernel_rfl) (by kernel_rfl) (by kernel_rfl) (fun _ _ _ h => h) (Or.inl ⟨by rfl, by intro w hSw; (try dsimp only at hSw); go_simp⟩) (by assumption) ?_
                simp only [Act.put, List.setIfInBounds_toArray, List.set_cons_zero, List.set_cons_succ]
                refine wpAnyH_take (i := 29) (oi := { dst := some 109, op := _, type := _, pos := _, after := _, guard := _ }) (v := (.bool false)) rfl (by kernel_rfl) (by kernel_rfl) (by kernel_rfl) (fun _ _ _ h => h) (Or.inl ⟨by rfl, by intro w hSw; (try dsimp only at hSw); go_simp⟩) (by assumption) ?_
                simp only [Act.put, List.setIfInBounds_toArray, List.set_cons_zero, List.set_cons_succ]
                refine wpAnyH_take (i := 30) (oi := { dst := some 110, op := _, type := _, pos := _, after := _, guard := _ }) (v := (.bool false)) rfl (by kernel_rfl) (by kernel_rfl) (by kernel_rfl) (fun _ _ _ h => h) (Or.inl ⟨by rfl, fun _ _ => rfl⟩) (by assumption) ?_
                simp only [Act.put, List.setIfInBounds_toArray, List.set_cons_zero, List.set_cons_succ]
                refine wpAnyH_done (by kernel_rfl) ?_ _
                clear HK hHeld s1 s2 hTT le1 le2 le3 le4 CC
                have x0 := x0.below hBel x0.lt
                have x1 := x1.below hBel x1.lt
                have x2 := x2.below hBel x2.lt
                have x3 := x3.below hBel x3.lt
                have x4 := x4.below hBel x4.lt
                have x5 := x5.below hBel x5.lt
                have x6 := x6.below hBel x6.lt
                have x7 := x7.below hBel x7.lt
                have r0 := (r0.below hBel).wide hBel.size
                have r1 := (r1.below hBel).wide hBel.size
                have r2 := (r2.below hBel).wide hBel.size
                have q3 := (q3.below hBel).wide hBel.size
                have q4 := (q4.below hBel).wide hBel.size
                have q5 := (q5.below hBel).wide hBel.size
                have q6 := (q6.below hBel).wide hBel.size
                have q7 := (q7.below hBel).wide hBel.size
                have hbel := hbel.trans (hBel.mono hbel.size)
                clear hBel
                clear c_x0_0 c_x0_1 c_x1_0 c_x1_1 c_x2_0 c_x2_1 c_x3_0 c_x3_1 c_x4_0 c_x4_1 c_x5_0 c_x5_1 c_x6_0 c_x6_1 c_x7_0 c_x7_1
                obtain ⟨c_x0_0, c_x0_1⟩ := x0.cell
                obtain ⟨c_x1_0, c_x1_1⟩ := x1.cell
                obtain ⟨c_x2_0, c_x2_1⟩ := x2.cell
                obtain ⟨c_x3_0, c_x3_1⟩ := x3.cell
                obtain ⟨c_x4_0, c_x4_1⟩ := x4.cell
                obtain ⟨c_x5_0, c_x5_1⟩ := x5.cell
                obtain ⟨c_x6_0, c_x6_1⟩ := x6.cell
                obtain ⟨c_x7_0, c_x7_1⟩ := x7.cell
                by_cases hc : Rst.formed N2 l2 = true ∧ N2 = (n : Int)
                · skip
                  obtain ⟨hf, hNc⟩ := hc
                  subst hNc
                  obtain ⟨z, hz4, hzn, rfl⟩ := Rst.formed_iff.1 hf
                  have hz : z.length = n := by omega
                  obtain rfl : n2 = K := by rw [← e2, Rst.pack_length, hz]; exact HKn.out.symm
                  have P6 := Lib.hid (CA.out o z hol hz)
                  have P7 := Lib.hid (CA.out x z hx hz)
                  have P8 := Lib.hid (CA.out y z hy hz)
                  have P9 := Lib.hid (CO.out _ _ (zip_len (f := fun a b => a && b) hx hz) (zip_len (f := fun a b => a && b) hy hz))
                  have P10 := Lib.hid (CS.out _ _ (zip_len (f := fun a b => a && b) hol hz) (zip_len (f := fun a b => a || b) (zip_len (f := fun a b => a && b) hx hz) (zip_len (f := fun a b => a && b) hy hz)))
                  have He := Lib.hid (show List.zipWith (fun a b => a && b) o z = List.zipWith (fun a b => a || b) (List.zipWith (fun a b => a && b) x z) (List.zipWith (fun a b => a && b) y z) by rw [Ho.out]; exact zip_part (hx.trans hy.symm) (hy.trans hz.symm))
                  clear e2 hf hzn CA CO CS
                  go_wp2_with fail
                  refine (P6.out _ _ _ _ _ q5 r2).mono ?_
                  rintro e w13 ⟨A8, c8, rfl, q8, hb⟩
                  have x0 := x0.below hb x0.lt
                  have x1 := x1.below hb x1.lt
                  have x2 := x2.below hb x2.lt
                  have x3 := x3.below hb x3.lt
                  have x4 := x4.below hb x4.lt
                  have x5 := x5.below hb x5.lt
                  have x6 := x6.below hb x6.lt
                  have x7 := x7.below hb x7.lt
                  have r0 := (r0.below hb).wide hb.size
                  have r1 := (r1.below hb).wide hb.size
                  have r2 := (r2.below hb).wide hb.size
                  have q3 := (q3.below hb).wide hb.size
                  have q4 := (q4.below hb).wide hb.size
                  have q5 := (q5.below hb).wide hb.size
                  have q6 := (q6.below hb).wide hb.size
                  have q7 := (q7.below hb).wide hb.size
                  have hbel := hbel.trans (hb.mono hbel.size)
                  clear hb
                  have hbA : Below w13.heap.size w13 (w13.alloc (.cells #[.int .i64 (n : Int), .slice A8 n2 c8] 26)) := (Below.refl _ _).alloc (Nat.le_refl _) _
                  have x8N := RBox.new w13 (n : Int) A8 n2 c8
                  have x0 := x0.below hbA x0.lt
                  have x1 := x1.below hbA x1.lt
                  have x2 := x2.below hbA x2.lt
                  have x3 := x3.below hbA x3.lt
                  have x4 := x4.below hbA x4.lt
                  have x5 := x5.below hbA x5.lt
                  have x6 := x6.below hbA x6.lt
                  have x7 := x7.below hbA x7.lt
                  have r0 := (r0.below hbA).wide hbA.size
                  have r1 := (r1.below hbA).wide hbA.size
                  have r2 := (r2.below hbA).wide hbA.size
                  have q3 := (q3.below hbA).wide hbA.size
                  have q4 := (q4.below hbA).wide hbA.size
                  have q5 := (q5.below hbA).wide hbA.size
                  have q6 := (q6.below hbA).wide hbA.size
                  have q7 := (q7.below hbA).wide hbA.size
                  have q8 := (q8.below hbA).wide hbA.size
                  have hbel := hbel.trans (hbA.mono hbel.size)
                  obtain ⟨b_x8, hb_x8⟩ : ∃ b, b = w13.heap.size := ⟨_, rfl⟩
                  rw [← hb_x8] at x8N
                  have HB_x8 := Lib.hid hb_x8
                  have x8 := x8N
                  clear hbA x8N hb_x8
                  clear c_x0_0 c_x0_1 c_x1_0 c_x1_1 c_x2_0 c_x2_1 c_x3_0 c_x3_1 c_x4_0 c_x4_1 c_x5_0 c_x5_1 c_x6_0 c_x6_1 c_x7_0 c_x7_1
                  obtain ⟨c_x0_0, c_x0_1⟩ := x0.cell
                  obtain ⟨c_x1_0, c_x1_1⟩ := x1.cell
                  obtain ⟨c_x2_0, c_x2_1⟩ := x2.cell
                  obtain ⟨c_x3_0, c_x3_1⟩ := x3.cell
                  obtain ⟨c_x4_0, c_x4_1⟩ := x4.cell
                  obtain ⟨c_x5_0, c_x5_1⟩ := x5.cell
                  obtain ⟨c_x6_0, c_x6_1⟩ := x6.cell
                  obtain ⟨c_x7_0, c_x7_1⟩ := x7.cell
                  obtain ⟨c_x8_0, c_x8_1⟩ := x8.cell
                  go_wp2_with fail
                  generalize (w13.alloc (.cells #[.int .i64 (n : Int), .slice A8 n2 c8] 26)) = w14 at *
                  rw [← HB_x8.out]
                  refine (P7.out _ _ _ _ _ r0 r2).mono ?_
                  rintro e w15 ⟨A9, c9, rfl, q9, hb⟩
                  have x0 := x0.below hb x0.lt
                  have x1 := x1.below hb x1.lt
                  have x2 := x2.below hb x2.lt
                  have x3 := x3.below hb x3.lt
                  have x4 := x4.below hb x4.lt
                  have x5 := x5.below hb x5.lt
                  have x6 := x6.below hb x6.lt
                  have x7 := x7.below hb x7.lt
                  have x8 := x8.below hb x8.lt
                  have r0 := (r0.below hb).wide hb.size
                  have r1 := (r1.below hb).wide hb.size
                  have r2 := (r2.below hb).wide hb.size
                  have q3 := (q3.below hb).wide hb.size
                  have q4 := (q4.below hb).wide hb.size
                  have q5 := (q5.below hb).wide hb.size
                  have q6 := (q6.below hb).wide hb.size
                  have q7 := (q7.below hb).wide hb.size
                  have q8 := (q8.below hb).wide hb.size
                  have hbel := hbel.trans (hb.mono hbel.size)
                  clear hb
                  have hbA : Below w15.heap.size w15 (w15.alloc (.cells #[.int .i64 (n : Int), .slice A9 n2 c9] 26)) := (Below.refl _ _).alloc (Nat.le_refl _) _
                  have x9N := RBox.new w15 (n : Int) A9 n2 c9
                  have x0 := x0.below hbA x0.lt
                  have x1 := x1.below hbA x1.lt
                  have x2 := x2.below hbA x2.lt
                  have x3 := x3.below hbA x3.lt
                  have x4 := x4.below hbA x4.lt
                  have x5 := x5.below hbA x5.lt
                  have x6 := x6.below hbA x6.lt
                  have x7 := x7.below hbA x7.lt
                  have x8 := x8.below hbA x8.lt
                  have r0 := (r0.below hbA).wide hbA.size
                  have r1 := (r1.below hbA).wide hbA.size
                  have r2 := (r2.below hbA).wide hbA.size
                  have q3 := (q3.below hbA).wide hbA.size
                  have q4 := (q4.below hbA).wide hbA.size
                  have q5 := (q5.below hbA).wide hbA.size
                  have q6 := (q6.below hbA).wide hbA.size
                  have q7 := (q7.below hbA).wide hbA.size
                  have q8 := (q8.below hbA).wide hbA.size
                  have q9 := (q9.below hbA).wide hbA.size
                  have hbel := hbel.trans (hbA.mono hbel.size)
                  obtain ⟨b_x9, hb_x9⟩ : ∃ b, b = w15.heap.size := ⟨_, rfl⟩
                  rw [← hb_x9] at x9N
                  have HB_x9 := Lib.hid hb_x9
                  have x9 := x9N
                  clear hbA x9N hb_x9
                  clear c_x0_0 c_x0_1 c_x1_0 c_x1_1 c_x2_0 c_x2_1 c_x3_0 c_x3_1 c_x4_0 c_x4_1 c_x5_0 c_x5_1 c_x6_0 c_x6_1 c_x7_0 c_x7_1 c_x8_0 c_x8_1
                  obtain ⟨c_x0_0, c_x0_1⟩ := x0.cell
                  obtain ⟨c_x1_0, c_x1_1⟩ := x1.cell
                  obtain ⟨c_x2_0, c_x2_1⟩ := x2.cell
                  obtain ⟨c_x3_0, c_x3_1⟩ := x3.cell
                  obtain ⟨c_x4_0, c_x4_1⟩ := x4.cell
                  obtain ⟨c_x5_0, c_x5_1⟩ := x5.cell
                  obtain ⟨c_x6_0, c_x6_1⟩ := x6.cell
                  obtain ⟨c_x7_0, c_x7_1⟩ := x7.cell
                  obtain ⟨c_x8_0, c_x8_1⟩ := x8.cell
                  obtain ⟨c_x9_0, c_x9_1⟩ := x9.cell
                  go_wp2_with fail
                  generalize (w15.alloc (.cells #[.int .i64 (n : Int), .slice A9 n2 c9] 26)) = w16 at *
                  rw [← HB_x9.out]
                  refine (P8.out _ _ _ _ _ r1 r2).mono ?_
                  rintro e w17 ⟨A10, c10, rfl, q10, hb⟩
                  have x0 := x0.below hb x0.lt
                  have x1 := x1.below hb x1.lt
                  have x2 := x2.below hb x2.lt
                  have x3 := x3.below hb x3.lt
                  have x4 := x4.below hb x4.lt
                  have x5 := x5.below hb x5.lt
                  have x6 := x6.below hb x6.lt
                  have x7 := x7.below hb x7.lt
                  have x8 := x8.below hb x8.lt
                  have x9 := x9.below hb x9.lt
                  have r0 := (r0.below hb).wide hb.size
                  have r1 := (r1.below hb).wide hb.size
                  have r2 := (r2.below hb).wide hb.size
                  have q3 := (q3.below hb).wide hb.size
                  have q4 := (q4.below hb).wide hb.size
                  have q5 := (q5.below hb).wide hb.size
                  have q6 := (q6.below hb).wide hb.size
                  have q7 := (q7.below hb).wide hb.size
                  have q8 := (q8.below hb).wide hb.size
                  have q9 := (q9.below hb).wide hb.size
                  have hbel := hbel.trans (hb.mono hbel.size)
                  clear hb
                  have hbA : Below w17.heap.size w17 (w17.alloc (.cells #[.int .i64 (n : Int), .slice A10 n2 c10] 26)) := (Below.refl _ _).alloc (Nat.le_refl _) _
                  have x10N := RBox.new w17 (n : Int) A10 n2 c10
                  have x0 := x0.below hbA x0.lt
                  have x1 := x1.below hbA x1.lt
                  have x2 := x2.below hbA x2.lt
                  have x3 := x3.below hbA x3.lt
                  have x4 := x4.below hbA x4.lt
                  have x5 := x5.below hbA x5.lt
                  have x6 := x6.below hbA x6.lt
                  have x7 := x7.below hbA x7.lt
                  have x8 := x8.below hbA x8.lt
                  have x9 := x9.below hbA x9.lt
                  have r0 := (r0.below hbA).wide hbA.size
                  have r1 := (r1.below hbA).wide hbA.size
                  have r2 := (r2.below hbA).wide hbA.size
                  have q3 := (q3.below hbA).wide hbA.size
                  have q4 := (q4.below hbA).wide hbA.size
                  have q5 := (q5.below hbA).wide hbA.size
                  have q6 := (q6.below hbA).wide hbA.size
                  have q7 := (q7.below hbA).wide hbA.size
                  have q8 := (q8.below hbA).wide hbA.size
                  have q9 := (q9.below hbA).wide hbA.size
                  have q10 := (q10.below hbA).wide hbA.size
                  have hbel := hbel.trans (hbA.mono hbel.size)
                  obtain ⟨b_x10, hb_x10⟩ : ∃ b, b = w17.heap.size := ⟨_, rfl⟩
                  rw [← hb_x10] at x10N
                  have HB_x10 := Lib.hid hb_x10
                  have x10 := x10N
                  clear hbA x10N hb_x10
                  clear c_x0_0 c_x0_1 c_x1_0 c_x1_1 c_x2_0 c_x2_1 c_x3_0 c_x3_1 c_x4_0 c_x4_1 c_x5_0 c_x5_1 c_x6_0 c_x6_1 c_x7_0 c_x7_1 c_x8_0 c_x8_1 c_x9_0 c_x9_1
                  obtain ⟨c_x0_0, c_x0_1⟩ := x0.cell
                  obtain ⟨c_x1_0, c_x1_1⟩ := x1.cell
                  obtain ⟨c_x2_0, c_x2_1⟩ := x2.cell
                  obtain ⟨c_x3_0, c_x3_1⟩ := x3.cell
                  obtain ⟨c_x4_0, c_x4_1⟩ := x4.cell
                  obtain ⟨c_x5_0, c_x5_1⟩ := x5.cell
                  obtain ⟨c_x6_0, c_x6_1⟩ := x6.cell
                  obtain ⟨c_x7_0, c_x7_1⟩ := x7.cell
                  obtain ⟨c_x8_0, c_x8_1⟩ := x8.cell
                  obtain ⟨c_x9_0, c_x9_1⟩ := x9.cell
                  obtain ⟨c_x10_0, c_x10_1⟩ := x10.cell
                  go_wp2_with fail
                  generalize (w17.alloc (.cells #[.int .i64 (n : Int), .slice A10 n2 c10] 26)) = w18 at *
                  rw [← HB_x10.out]
                  refine (P9.out _ _ _ _ _ q9 q10).mono ?_
                  rintro e w19 ⟨A11, c11, rfl, q11, hb⟩
                  have x0 := x0.below hb x0.lt
                  have x1 := x1.below hb x1.lt
                  have x2 := x2.below hb x2.lt
                  have x3 := x3.below hb x3.lt
                  have x4 := x4.below hb x4.lt
                  have x5 := x5.below hb x5.lt
                  have x6 := x6.below hb x6.lt
                  have x7 := x7.below hb x7.lt
                  have x8 := x8.below hb x8.lt
                  have x9 := x9.below hb x9.lt
                  have x10 := x10.below hb x10.lt
                  have r0 := (r0.below hb).wide hb.size
                  have r1 := (r1.below hb).wide hb.size
                  have r2 := (r2.below hb).wide hb.size
                  have q3 := (q3.below hb).wide hb.size
                  have q4 := (q4.below hb).wide hb.size
                  have q5 := (q5.below hb).wide hb.size
                  have q6 := (q6.below hb).wide hb.size
                  have q7 := (q7.below hb).wide hb.size
                  have q8 := (q8.below hb).wide hb.size
                  have q9 := (q9.below hb).wide hb.size
                  have q10 := (q10.below hb).wide hb.size
                  have hbel := hbel.trans (hb.mono hbel.size)
                  clear hb
                  have hbA : Below w19.heap.size w19 (w19.alloc (.cells #[.int .i64 (n : Int), .slice A11 n2 c11] 26)) := (Below.refl _ _).alloc (Nat.le_refl _) _
                  have x11N := RBox.new w19 (n : Int) A11 n2 c11
                  have x0 := x0.below hbA x0.lt
                  have x1 := x1.below hbA x1.lt
                  have x2 := x2.below hbA x2.lt
                  have x3 := x3.below hbA x3.lt
                  have x4 := x4.below hbA x4.lt
                  have x5 := x5.below hbA x5.lt
                  have x6 := x6.below hbA x6.lt
                  have x7 := x7.below hbA x7.lt
                  have x8 := x8.below hbA x8.lt
                  have x9 := x9.below hbA x9.lt
                  have x10 := x10.below hbA x10.lt
                  have r0 := (r0.below hbA).wide hbA.size
                  have r1 := (r1.below hbA).wide hbA.size
                  have r2 := (r2.below hbA).wide hbA.size
                  have q3 := (q3.below hbA).wide hbA.size
                  have q4 := (q4.below hbA).wide hbA.size
                  have q5 := (q5.below hbA).wide hbA.size
                  have q6 := (q6.below hbA).wide hbA.size
                  have q7 := (q7.below hbA).wide hbA.size
                  have q8 := (q8.below hbA).wide hbA.size
                  have q9 := (q9.below hbA).wide hbA.size
                  have q10 := (q10.below hbA).wide hbA.size
                  have q11 := (q11.below hbA).wide hbA.size
                  have hbel := hbel.trans (hbA.mono hbel.size)
                  obtain ⟨b_x11, hb_x11⟩ : ∃ b, b = w19.heap.size := ⟨_, rfl⟩
                  rw [← hb_x11] at x11N
                  have HB_x11 := Lib.hid hb_x11
                  have x11 := x11N
                  clear hbA x11N hb_x11
                  clear c_x0_0 c_x0_1 c_x1_0 c_x1_1 c_x2_0 c_x2_1 c_x3_0 c_x3_1 c_x4_0 c_x4_1 c_x5_0 c_x5_1 c_x6_0 c_x6_1 c_x7_0 c_x7_1 c_x8_0 c_x8_1 c_x9_0 c_x9_1 c_x10_0 c_x10_1
                  obtain ⟨c_x0_0, c_x0_1⟩ := x0.cell
                  obtain ⟨c_x1_0, c_x1_1⟩ := x1.cell
                  obtain ⟨c_x2_0, c_x2_1⟩ := x2.cell
                  obtain ⟨c_x3_0, c_x3_1⟩ := x3.cell
                  obtain ⟨c_x4_0, c_x4_1⟩ := x4.cell
                  obtain ⟨c_x5_0, c_x5_1⟩ := x5.cell
                  obtain ⟨c_x6_0, c_x6_1⟩ := x6.cell
                  obtain ⟨c_x7_0, c_x7_1⟩ := x7.cell
                  obtain ⟨c_x8_0, c_x8_1⟩ := x8.cell
                  obtain ⟨c_x9_0, c_x9_1⟩ := x9.cell
                  obtain ⟨c_x10_0, c_x10_1⟩ := x10.cell
                  obtain ⟨c_x11_0, c_x11_1⟩ := x11.cell
                  go_wp2_with fail
                  generalize (w19.alloc (.cells #[.int .i64 (n : Int), .slice A11 n2 c11] 26)) = w20 at *
                  rw [← HB_x11.out]
                  refine (P10.out _ _ _ _ _ q8 q11 He.out).mono ?_
                  rintro e w21 ⟨rfl, hb⟩
                  have x0 := x0.below hb x0.lt
                  have x1 := x1.below hb x1.lt
                  have x2 := x2.below hb x2.lt
                  have x3 := x3.below hb x3.lt
                  have x4 := x4.below hb x4.lt
                  have x5 := x5.below hb x5.lt
                  have x6 := x6.below hb x6.lt
                  have x7 := x7.below hb x7.lt
                  have x8 := x8.below hb x8.lt
                  have x9 := x9.below hb x9.lt
                  have x10 := x10.below hb x10.lt
                  have x11 := x11.below hb x11.lt
                  have r0 := (r0.below hb).wide hb.size
                  have r1 := (r1.below hb).wide hb.size
                  have r2 := (r2.below hb).wide hb.size
                  have q3 := (q3.below hb).wide hb.size
                  have q4 := (q4.below hb).wide hb.size
                  have q5 := (q5.below hb).wide hb.size
                  have q6 := (q6.below hb).wide hb.size
                  have q7 := (q7.below hb).wide hb.size
                  have q8 := (q8.below hb).wide hb.size
                  have q9 := (q9.below hb).wide hb.size
                  have q10 := (q10.below hb).wide hb.size
                  have q11 := (q11.below hb).wide hb.size
                  have hbel := hbel.trans (hb.mono hbel.size)
                  clear hb
                  clear c_x0_0 c_x0_1 c_x1_0 c_x1_1 c_x2_0 c_x2_1 c_x3_0 c_x3_1 c_x4_0 c_x4_1 c_x5_0 c_x5_1 c_x6_0 c_x6_1 c_x7_0 c_x7_1 c_x8_0 c_x8_1 c_x9_0 c_x9_1 c_x10_0 c_x10_1 c_x11_0 c_x11_1
                  go_wp2
                  go_ret
                  exact ⟨rfl, hbel⟩
                · skip
                  have hKl : K ≤ 64 := by rw [HKn.out]; exact need_le hx4
                  have hol2 : (Rst.pack o).length = K := by rw [Rst.pack_length, hol]; exact HKn.out.symm
                  have hxl2 : (Rst.pack x).length = K := by rw [Rst.pack_length, hx]; exact HKn.out.symm
                  have hyl2 : (Rst.pack y).length = K := by rw [Rst.pack_length, hy]; exact HKn.out.symm
                  have hno : ∀ u : List UInt64, ¬ (Rst.formed (n : Int) u = true ∧ Rst.formed N2 l2 = true ∧ (n : Int) = N2) := fun u h => hc ⟨h.2.1, h.2.2.symm⟩
                  have P6 := Lib.hid (fun A1 A2 c1 W h1 h2 => andE (n : Int) N2 A1 A2 K n2 c1 cap2 (Rst.pack o) l2 W hol2 e2 (by omega) (by omega) h1 h2 (hno _))
                  have P7 := Lib.hid (fun A1 A2 c1 W h1 h2 => andE (n : Int) N2 A1 A2 K n2 c1 cap2 (Rst.pack x) l2 W hxl2 e2 (by omega) (by omega) h1 h2 (hno _))
                  have P8 := Lib.hid (fun A1 A2 c1 W h1 h2 => andE (n : Int) N2 A1 A2 K n2 c1 cap2 (Rst.pack y) l2 W hyl2 e2 (by omega) (by omega) h1 h2 (hno _))
                  clear hol2 hxl2 hyl2 hno e2 hc CA CO CS
                  go_wp2_with fail
                  refine (P6.out _ _ _ _ q5 r2).mono ?_
                  rintro e w13 ⟨A8, c8, rfl, q8, hb⟩
                  have x0 := x0.below hb x0.lt
                  have x1 := x1.below hb x1.lt
                  have x2 := x2.below hb x2.lt
                  have x3 := x3.below hb x3.lt
                  have x4 := x4.below hb x4.lt
                  have x5 := x5.below hb x5.lt
                  have x6 := x6.below hb x6.lt
                  have x7 := x7.below hb x7.lt
                  have r0 := (r0.below hb).wide hb.size
                  have r1 := (r1.below hb).wide hb.size
                  have r2 := (r2.below hb).wide hb.size
                  have q3 := (q3.below hb).wide hb.size
                  have q4 := (q4.below hb).wide hb.size
                  have q5 := (q5.below hb).wide hb.size
                  have q6 := (q6.below hb).wide hb.size
                  have q7 := (q7.below hb).wide hb.size
                  have hbel := hbel.trans (hb.mono hbel.size)
                  clear hb
                  have hbA : Below w13.heap.size w13 (w13.alloc (.cells #[.int .i64 0, .slice A8 0 c8] 26)) := (Below.refl _ _).alloc (Nat.le_refl _) _
                  have x8N := RBox.new w13 0 A8 0 c8
                  have x0 := x0.below hbA x0.lt
                  have x1 := x1.below hbA x1.lt
                  have x2 := x2.below hbA x2.lt
                  have x3 := x3.below hbA x3.lt
                  have x4 := x4.below hbA x4.lt
                  have x5 := x5.below hbA x5.lt
                  have x6 := x6.below hbA x6.lt
                  have x7 := x7.below hbA x7.lt
                  have r0 := (r0.below hbA).wide hbA.size
                  have r1 := (r1.below hbA).wide hbA.size
                  have r2 := (r2.below hbA).wide hbA.size
                  have q3 := (q3.below hbA).wide hbA.size
                  have q4 := (q4.below hbA).wide hbA.size
                  have q5 := (q5.below hbA).wide hbA.size
                  have q6 := (q6.below hbA).wide hbA.size
                  have q7 := (q7.below hbA).wide hbA.size
                  have q8 := (q8.below hbA).wide hbA.size
                  have hbel := hbel.trans (hbA.mono hbel.size)
                  obtain ⟨b_x8, hb_x8⟩ : ∃ b, b = w13.heap.size := ⟨_, rfl⟩
                  rw [← hb_x8] at x8N
                  have HB_x8 := Lib.hid hb_x8
                  have x8 := x8N
                  clear hbA x8N hb_x8
                  clear c_x0_0 c_x0_1 c_x1_0 c_x1_1 c_x2_0 c_x2_1 c_x3_0 c_x3_1 c_x4_0 c_x4_1 c_x5_0 c_x5_1 c_x6_0 c_x6_1 c_x7_0 c_x7_1
                  obtain ⟨c_x0_0, c_x0_1⟩ := x0.cell
                  obtain ⟨c_x1_0, c_x1_1⟩ := x1.cell
                  obtain ⟨c_x2_0, c_x2_1⟩ := x2.cell
                  obtain ⟨c_x3_0, c_x3_1⟩ := x3.cell
                  obtain ⟨c_x4_0, c_x4_1⟩ := x4.cell
                  obtain ⟨c_x5_0, c_x5_1⟩ := x5.cell
                  obtain ⟨c_x6_0, c_x6_1⟩ := x6.cell
                  obtain ⟨c_x7_0, c_x7_1⟩ := x7.cell
                  obtain ⟨c_x8_0, c_x8_1⟩ := x8.cell
                  go_wp2_with fail
                  generalize (w13.alloc (.cells #[.int .i64 0, .slice A8 0 c8] 26)) = w14 at *
                  rw [← HB_x8.out]
                  refine (P7.out _ _ _ _ r0 r2).mono ?_
                  rintro e w15 ⟨A9, c9, rfl, q9, hb⟩
                  have x0 := x0.below hb x0.lt
                  have x1 := x1.below hb x1.lt
                  have x2 := x2.below hb x2.lt
                  have x3 := x3.below hb x3.lt
                  have x4 := x4.below hb x4.lt
                  have x5 := x5.below hb x5.lt
                  have x6 := x6.below hb x6.lt
                  have x7 := x7.below hb x7.lt
                  have x8 := x8.below hb x8.lt
                  have r0 := (r0.below hb).wide hb.size
                  have r1 := (r1.below hb).wide hb.size
                  have r2 := (r2.below hb).wide hb.size
                  have q3 := (q3.below hb).wide hb.size
                  have q4 := (q4.below hb).wide hb.size
                  have q5 := (q5.below hb).wide hb.size
                  have q6 := (q6.below hb).wide hb.size
                  have q7 := (q7.below hb).wide hb.size
                  have q8 := (q8.below hb).wide hb.size
                  have hbel := hbel.trans (hb.mono hbel.size)
                  clear hb
                  have hbA : Below w15.heap.size w15 (w15.alloc (.cells #[.int .i64 0, .slice A9 0 c9] 26)) := (Below.refl _ _).alloc (Nat.le_refl _) _
                  have x9N := RBox.new w15 0 A9 0 c9
                  have x0 := x0.below hbA x0.lt
                  have x1 := x1.below hbA x1.lt
                  have x2 := x2.below hbA x2.lt
                  have x3 := x3.below hbA x3.lt
                  have x4 := x4.below hbA x4.lt
                  have x5 := x5.below hbA x5.lt
                  have x6 := x6.below hbA x6.lt
                  have x7 := x7.below hbA x7.lt
                  have x8 := x8.below hbA x8.lt
                  have r0 := (r0.below hbA).wide hbA.size
                  have r1 := (r1.below hbA).wide hbA.size
                  have r2 := (r2.below hbA).wide hbA.size
                  have q3 := (q3.below hbA).wide hbA.size
                  have q4 := (q4.below hbA).wide hbA.size
                  have q5 := (q5.below hbA).wide hbA.size
                  have q6 := (q6.below hbA).wide hbA.size
                  have q7 := (q7.below hbA).wide hbA.size
                  have q8 := (q8.below hbA).wide hbA.size
                  have q9 := (q9.below hbA).wide hbA.size
                  have hbel := hbel.trans (hbA.mono hbel.size)
                  obtain ⟨b_x9, hb_x9⟩ : ∃ b, b = w15.heap.size := ⟨_, rfl⟩
                  rw [← hb_x9] at x9N
                  have HB_x9 := Lib.hid hb_x9
                  have x9 := x9N
                  clear hbA x9N hb_x9
                  clear c_x0_0 c_x0_1 c_x1_0 c_x1_1 c_x2_0 c_x2_1 c_x3_0 c_x3_1 c_x4_0 c_x4_1 c_x5_0 c_x5_1 c_x6_0 c_x6_1 c_x7_0 c_x7_1 c_x8_0 c_x8_1
                  obtain ⟨c_x0_0, c_x0_1⟩ := x0.cell
                  obtain ⟨c_x1_0, c_x1_1⟩ := x1.cell
                  obtain ⟨c_x2_0, c_x2_1⟩ := x2.cell
                  obtain ⟨c_x3_0, c_x3_1⟩ := x3.cell
                  obtain ⟨c_x4_0, c_x4_1⟩ := x4.cell
                  obtain ⟨c_x5_0, c_x5_1⟩ := x5.cell
                  obtain ⟨c_x6_0, c_x6_1⟩ := x6.cell
                  obtain ⟨c_x7_0, c_x7_1⟩ := x7.cell
                  obtain ⟨c_x8_0, c_x8_1⟩ := x8.cell
                  obtain ⟨c_x9_0, c_x9_1⟩ := x9.cell
                  go_wp2_with fail
                  generalize (w15.alloc (.cells #[.int .i64 0, .slice A9 0 c9] 26)) = w16 at *
                  rw [← HB_x9.out]
                  refine (P8.out _ _ _ _ r1 r2).mono ?_
                  rintro e w17 ⟨A10, c10, rfl, q10, hb⟩
                  have x0 := x0.below hb x0.lt
                  have x1 := x1.below hb x1.lt
                  have x2 := x2.below hb x2.lt
                  have x3 := x3.below hb x3.lt
                  have x4 := x4.below hb x4.lt
                  have x5 := x5.below hb x5.lt
                  have x6 := x6.below hb x6.lt
                  have x7 := x7.below hb x7.lt
                  have x8 := x8.below hb x8.lt
                  have x9 := x9.below hb x9.lt
                  have r0 := (r0.below hb).wide hb.size
                  have r1 := (r1.below hb).wide hb.size
                  have r2 := (r2.below hb).wide hb.size
                  have q3 := (q3.below hb).wide hb.size
                  have q4 := (q4.below hb).wide hb.size
                  have q5 := (q5.below hb).wide hb.size
                  have q6 := (q6.below hb).wide hb.size
                  have q7 := (q7.below hb).wide hb.size
                  have q8 := (q8.below hb).wide hb.size
                  have q9 := (q9.below hb).wide hb.size
                  have hbel := hbel.trans (hb.mono hbel.size)
                  clear hb
                  have hbA : Below w17.heap.size w17 (w17.alloc (.cells #[.int .i64 0, .slice A10 0 c10] 26)) := (Below.refl _ _).alloc (Nat.le_refl _) _
                  have x10N := RBox.new w17 0 A10 0 c10
                  have x0 := x0.below hbA x0.lt
                  have x1 := x1.below hbA x1.lt
                  have x2 := x2.below hbA x2.lt
                  have x3 := x3.below hbA x3.lt
                  have x4 := x4.below hbA x4.lt
                  have x5 := x5.below hbA x5.lt
                  have x6 := x6.below hbA x6.lt
                  have x7 := x7.below hbA x7.lt
                  have x8 := x8.below hbA x8.lt
                  have x9 := x9.below hbA x9.lt
                  have r0 := (r0.below hbA).wide hbA.size
                  have r1 := (r1.below hbA).wide hbA.size
                  have r2 := (r2.below hbA).wide hbA.size
                  have q3 := (q3.below hbA).wide hbA.size
                  have q4 := (q4.below hbA).wide hbA.size
                  have q5 := (q5.below hbA).wide hbA.size
                  have q6 := (q6.below hbA).wide hbA.size
                  have q7 := (q7.below hbA).wide hbA.size
                  have q8 := (q8.below hbA).wide hbA.size
                  have q9 := (q9.below hbA).wide hbA.size
                  have q10 := (q10.below hbA).wide hbA.size
                  have hbel := hbel.trans (hbA.mono hbel.size)
                  obtain ⟨b_x10, hb_x10⟩ : ∃ b, b = w17.heap.size := ⟨_, rfl⟩
                  rw [← hb_x10] at x10N
                  have HB_x10 := Lib.hid hb_x10
                  have x10 := x10N
                  clear hbA x10N hb_x10
                  clear c_x0_0 c_x0_1 c_x1_0 c_x1_1 c_x2_0 c_x2_1 c_x3_0 c_x3_1 c_x4_0 c_x4_1 c_x5_0 c_x5_1 c_x6_0 c_x6_1 c_x7_0 c_x7_1 c_x8_0 c_x8_1 c_x9_0 c_x9_1
                  obtain ⟨c_x0_0, c_x0_1⟩ := x0.cell
                  obtain ⟨c_x1_0, c_x1_1⟩ := x1.cell
                  obtain ⟨c_x2_0, c_x2_1⟩ := x2.cell
                  obtain ⟨c_x3_0, c_x3_1⟩ := x3.cell
                  obtain ⟨c_x4_0, c_x4_1⟩ := x4.cell
                  obtain ⟨c_x5_0, c_x5_1⟩ := x5.cell
                  obtain ⟨c_x6_0, c_x6_1⟩ := x6.cell
                  obtain ⟨c_x7_0, c_x7_1⟩ := x7.cell
                  obtain ⟨c_x8_0, c_x8_1⟩ := x8.cell
                  obtain ⟨c_x9_0, c_x9_1⟩ := x9.cell
                  obtain ⟨c_x10_0, c_x10_1⟩ := x10.cell
                  go_wp2
                  go_ret
                  exact ⟨rfl, hbel⟩
              exact AllReadyH.nil
            exact AllReadyH.nil
          exact AllReadyH.nil
        exact AllReadyH.nil
      exact AllReadyH.nil
    exact AllReadyH.nil
/-- from the walk to the post of the row -/
theorem contract (H : Type) (enc : TypeId × Value → H) (W : World) (base : Nat) (args : Array Value) (ds gs : List (DataW H)) (before : List MemPlace)
    (hval : ∀ (j : Nat) t v, Try.f5.params[j]? = some t → args[j]? = some v → Value.okWide Try.prog W .any base t v)
    (hW : DataW.Whole enc Try.prog Try.f5.params.toList Rows.rowsetSetsSpec.vars false W args.toList ds gs before) (_ : laidMetH Try.prog Rows.rowsetSetsRow.laid W)
    (hsz0 : (DataW.weightsEach Try.prog (Try.f5.params.toList ++ Rows.rowsetSetsSpec.plain.varTypes Try.prog) (ds ++ gs)).all (· ≤ reachBytes) = true) :
    Calls Try.prog 5 args W fun e W' => ∃ v, e = .returned v ∧ Rows.rowsetSetsSpec.post enc Try.prog Try.f5 false true false false W args v W' := by
  have hW' := hW
  obtain ⟨p, q, hA0, hV, rfl, hfz, hnd⟩ := hW
  have hA : DataW.TrodAll enc Try.prog W 0 (fun _ => true) true Try.f5.params.toList args.toList ds p := hA0
  rw [Try.params5] at hA hval hsz0
  obtain ⟨v0, vs0, d0, ds0, p0, q0, hargs, rfl, rfl, h0, r0⟩ := trodAll_cons hA
  obtain ⟨v1, vs1, d1, ds1, p1, q1, rfl, rfl, rfl, h1, r1⟩ := trodAll_cons r0
  obtain ⟨v2, vs2, d2, ds2, p2, q2, rfl, rfl, rfl, h2, r2⟩ := trodAll_cons r1
  obtain ⟨rfl, rfl, rfl⟩ := trodAll_nil r2
  obtain rfl : args = #[v0, v1, v2] := by cases args; simp_all
  obtain ⟨rfl, rfl⟩ := trodVars_none hV
  have lt0 : ∀ x ∈ p0, x.block < W.heap.size := by obtain ⟨m, hm⟩ := h0; exact DataW.trod_lt m _ _ _ hm
  obtain ⟨N0, a0, len0, cap0, l0, rfl, na0, nb0, e0, ec0, b0, dd0, de0, k0⟩ := open_rows (hval 0 26 v0 rfl rfl) h0
  have reach0 := reach_rows hsz0 (j := 0) rfl rfl de0 k0
  have lt1 : ∀ x ∈ p1, x.block < W.heap.size := by obtain ⟨m, hm⟩ := h1; exact DataW.trod_lt m _ _ _ hm
  obtain ⟨N1, a1, len1, cap1, l1, rfl, na1, nb1, e1, ec1, b1, dd1, de1, k1⟩ := open_rows (hval 1 26 v1 rfl rfl) h1
  have reach1 := reach_rows hsz0 (j := 1) rfl rfl de1 k1
  have lt2 : ∀ x ∈ p2, x.block < W.heap.size := by obtain ⟨m, hm⟩ := h2; exact DataW.trod_lt m _ _ _ hm
  obtain ⟨N2, a2, len2, cap2, l2, rfl, na2, nb2, e2, ec2, b2, dd2, de2, k2⟩ := open_rows (hval 2 26 v2 rfl rfl) h2
  have reach2 := reach_rows hsz0 (j := 2) rfl rfl de2 k2
  clear hA0
  refine (walk N0 a0 len0 cap0 l0 N1 a1 len1 cap1 l1 N2 a2 len2 cap2 l2 W na0 nb0 e0 ec0 reach0 b0 na1 nb1 e1 ec1 reach1 b1 na2 nb2 e2 ec2 reach2 b2).mono fun e W' ⟨he, bel⟩ => ?_
  subst he
  exact ⟨_, rfl, _, _, _, [], _, [], hW', trodAll_mk1 (shut_bool Try.underlying4 _), (trodAll_cons_mk (Below.trod laidOut (by kernel_rfl) (of_decide_eq_true (by kernel_rfl)) h0 bel lt0) (trodAll_cons_mk (Below.trod laidOut (by kernel_rfl) (of_decide_eq_true (by kernel_rfl)) h1 bel lt1) (trodAll_cons_mk (Below.trod laidOut (by kernel_rfl) (of_decide_eq_true (by kernel_rfl)) h2 bel lt2) trodAll_mk0))), rfl, bel.frame _, fun h => by cases h⟩

theorem laid_met (os : Os) : laidMet Try.prog Rows.rowsetSetsRow.laid ((World.holding Try.prog os ⟨#[], #[], []⟩).forCall (fun _ _ => 0) ⟨#[], #[.agg #[.int .i64 0, .slice none 0 0], .agg #[.int .i64 0, .slice none 0 0], .agg #[.int .i64 0, .slice none 0 0]], []⟩).memory :=
  laidMet_of_run' 8 (by kernel_rfl) (by kernel_rfl)
theorem reads (os : Os) {H : Type} (enc : TypeId × Value → H) : ∃ places, DataW.whole enc Try.prog ((World.holding Try.prog os ⟨#[], #[], []⟩).forCall (fun _ _ => 0) ⟨#[], #[.agg #[.int .i64 0, .slice none 0 0], .agg #[.int .i64 0, .slice none 0 0], .agg #[.int .i64 0, .slice none 0 0]], []⟩).memory Try.f5.params.toList Rows.rowsetSetsSpec.vars false #[Value.agg #[.int .i64 0, .slice none 0 0], .agg #[.int .i64 0, .slice none 0 0], .agg #[.int .i64 0, .slice none 0 0]].toList 8 = some ([.agg [.lit (.int .i64 0), .nil], .agg [.lit (.int .i64 0), .nil], .agg [.lit (.int .i64 0), .nil]], [], places) :=
  ⟨[], by kernel_rfl⟩

set_option maxRecDepth 100000 in
theorem lifted (os : Os) (started : os.Started) (H : Type) (enc : TypeId × Value → H) (F : Stop.Interp) :
    ReturnsInHanded {} Try.checked os 5 .any ((OpenSpec.ofChange Rows.rowsetSetsSpec).preRow enc Try.prog Try.f5 Rows.rowsetSetsRow.domain false Rows.rowsetSetsRow.laid) (((OpenSpec.ofChange Rows.rowsetSetsSpec).at F).post enc Try.prog Try.f5 false true false false) := by
  obtain ⟨places, hx⟩ := reads os enc
  refine returnsInHanded_of_row (C := Try.checked) (s := OpenSpec.ofChange Rows.rowsetSetsSpec) own started (by kernel_rfl) Try.func5
    (witness_row_at (enc := enc) (C := Try.checked) false (World.holding Try.prog os ⟨#[], #[], []⟩) #[.agg #[.int .i64 0, .slice none 0 0], .agg #[.int .i64 0, .slice none 0 0], .agg #[.int .i64 0, .slice none 0 0]] rfl (by kernel_rfl) (by kernel_rfl) (by kernel_rfl)
      (OpenSpec.preRow_of_cond 8 hx (by kernel_rfl) (fun k hk => by cases hk) (by kernel_rfl) (laid_met os))) ?_
  intro W base args ds gs before hval hW _ _ hsz hL _ _
  exact contract H enc W base args ds gs before hval hW hL hsz

theorem said : Rows.RowsetSetsSaid :=
  OpenClaim.holds_of_cond 5 Try.f5 rfl rfl rfl rfl rfl rfl rfl ⟨rfl, rfl, rfl, rfl, rfl⟩ rfl rfl rfl rfl rfl (by kernel_rfl) Try.func5 (by kernel_rfl)
    (of_decide_eq_true (by kernel_rfl)) (by unfold Func.isWrapper; first | (rw [if_pos (by decide +kernel)]; kernel_rfl) | (rw [if_neg (by decide +kernel)]; exact ⟨rfl, rfl⟩))
    (fun os started H enc _ F => by rw [OpenClaim.pre_eq_preRow]; exact lifted os started H enc F)

end Go.Proofs.Ytggelnlbdpdegaa.rowsetSets
