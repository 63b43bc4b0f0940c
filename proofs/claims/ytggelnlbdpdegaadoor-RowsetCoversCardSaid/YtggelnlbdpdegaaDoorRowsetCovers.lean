/- PROVED: the law RowsetCovers (the rows of a set's granules are the set and others of the same granules alone) returns true and leaves its argument as it was, for every argument, where the table of math/bits reads as the program's text lays it.
   Conditions: none but the form's own reach (a slice has fewer than 2^47 bytes). -/
import Derived.Test.YtggelnlbdpdegaaDoorRstArg
import Derived.Test.YtggelnlbdpdegaaDoorRstUni
import Derived.Test.YtggelnlbdpdegaaDoorRstAnd
import Derived.Test.YtggelnlbdpdegaaDoorRstWi
import Derived.Test.YtggelnlbdpdegaaDoorRstGran
import Derived.Test.YtggelnlbdpdegaaDoorRstVars
namespace Go.Proofs.YtggelnlbdpdegaaDoor.rowsetCovers
open Go.ChangeShapes Go.WideShapes Go.ChangeAt Go.RowKit
set_option maxRecDepth 100000

theorem gran_none {N : Int} {ws : List UInt64} (h : ¬ Rst.formed N ws = true) : granR N ws = [] := by
  unfold granR listR
  rw [if_neg h]
  rfl
theorem gran_set {n : Nat} (hn : n ≤ 4096) {x : List Bool} (hx : x.length = n) : granR (n : Int) (Rst.pack x) = Rst.granI (Rst.pack x) n := by
  unfold granR listR
  have h : Rst.formed (n : Int) (Rst.pack x) = true := by rw [← hx]; exact Rst.formed_pack (by omega)
  rw [if_pos h, Int.toNat_natCast]
  rfl
theorem gran_fits (N : Int) (ws : List UInt64) : Fits64 (granR N ws) := by
  intro z hz
  obtain ⟨g, hg, rfl⟩ := List.mem_map.1 hz
  obtain ⟨r, hr, rfl⟩ := (Rst.gran_mem _ _).1 hg
  have := listR_lt hr
  omega
theorem gran_short (N : Int) (ws : List UInt64) : (granR N ws).length ≤ 4096 := by
  unfold granR asInts
  rw [List.length_map]
  exact Nat.le_trans (Rst.gran_length _) (listR_small N ws)
theorem letters {f : Nat} {args : Array Value} {W : World} {M : Int} {ws : List UInt64} {k ε : Nat} (hk : ws.length = k) (h : Calls Tryd.prog f args W (SetPost W ((M, ws), ε))) :
    Calls Tryd.prog f args W fun e w' => ∃ A c, e = .returned (.tuple #[.agg #[.int .i64 M, .slice A k c], .int .i64 (ε : Int)]) ∧ Nums w' w'.heap.size A ws ∧ Below W.heap.size W w' := by
  refine h.mono ?_
  rintro e w' ⟨A, c, rfl, ho, hb⟩
  subst hk
  exact ⟨A, c, rfl, ho.row, hb⟩
theorem granL (N : Int) (A : Option Addr) (n c : Nat) (ws : List UInt64) (l : List Int) (he : granR N ws = l) (W : World) (hl : ws.length = n) (hn : 8 * n ≤ 140737488351232) (hb : Nums W W.heap.size A ws) (ht : Tab64 W) :
    Calls Tryd.prog 14 #[.agg #[.int .i64 N, .slice A n c]] W fun e w' => ∃ A' c', e = .returned (.slice A' l.length c') ∧ Ints w' w'.heap.size A' l ∧ Below W.heap.size W w' := by
  refine (granules_any N A n c W.heap.size ws W hl hn hb (Nat.le_refl _) ht).mono ?_
  rintro e w' ⟨A', m, c', rfl, ho, hb⟩
  have hm := ho.len
  rw [he] at ho hm
  subst hm
  exact ⟨A', c', rfl, ho.row, hb⟩
theorem intsL (A1 A2 : Option Addr) (k c1 c2 : Nat) (l : List Int) (hk : l.length = k) (hs : k ≤ 4096) (W : World) (h1 : Ints W W.heap.size A1 l) (h2 : Ints W W.heap.size A2 l) :
    Calls Tryd.prog 13 #[.slice A1 k c1, .slice A2 k c2] W fun e w' => e = .returned (.bool true) ∧ Below W.heap.size W w' := by
  have h := ints_any A1 A2 k k c1 c2 W.heap.size W.heap.size l l W hk hk (by omega) (by omega) h1 h2
  rw [decide_eq_true rfl] at h
  exact h.mono fun e w' ⟨he, hd⟩ => ⟨he, hd.below _⟩

set_option maxHeartbeats 4000000 in
theorem walk (N0 : Int) (a0 : Option Addr) (n0 cap0 : Nat) (l0 : List UInt64) (w : World)
    (_na0 : -9223372036854775808 ≤ N0) (_nb0 : N0 ≤ 9223372036854775807) (e0 : l0.length = n0) (_ec0 : n0 ≤ cap0) (hn0 : 8 * n0 ≤ 140737488351232) (b0 : Nums w w.heap.size a0 l0) (ht : Tab64 w) :
    Calls Tryd.prog 5 #[rval N0 a0 n0 cap0] w fun e w' => e = .returned (.bool true) ∧ Below w.heap.size w w' := by
  by_cases hf : Rst.formed N0 l0 = true
  · skip
    obtain ⟨x, hx4, rfl, rfl⟩ := Rst.formed_iff.1 hf
    obtain ⟨n, hn⟩ : ∃ n, n = x.length := ⟨_, rfl⟩
    have hx : x.length = n := hn.symm
    rw [hx] at hx4 hf ⊢
    clear hn
    rw [Rst.pack_length, hx] at e0
    subst e0
    obtain ⟨K, hK⟩ : ∃ K, K = Rst.need n := ⟨_, rfl⟩
    obtain ⟨G, hG⟩ : ∃ G, G = granR (n : Int) (Rst.pack x) := ⟨_, rfl⟩
    have hGI : G = Rst.granI (Rst.pack x) n := hG.trans (gran_set hx4 hx)
    have hGf : Fits64 G := by rw [hG]; exact gran_fits _ _
    have hGs : G.length ≤ 4096 := by rw [hG]; exact gran_short _ _
    obtain ⟨y, hy⟩ : ∃ y, y = Rst.withinL n G := ⟨_, rfl⟩
    have hyl : y.length = n := by rw [hy]; exact Rst.withinL_length _ _
    have hz : List.zipWith (fun a b => a && b) x y = x := by
      have := Rst.cover_and x
      rw [hx] at this
      rw [hy, hGI]
      exact this
    have hgy : granR (n : Int) (Rst.pack y) = G := by
      have := Rst.cover_gran x
      rw [hx] at this
      rw [gran_set hx4 hyl, hy, hGI]
      exact this
    have hw := Rst.wiR_ok (l := G) hx4 (by rw [hGI]; exact Rst.gran_ok)
    rw [← hy] at hw
    have hkx : (Rst.pack x).length = K := by rw [Rst.pack_length, hx]; exact hK.symm
    have hky : (Rst.pack y).length = K := by rw [Rst.pack_length, hyl]; exact hK.symm
    obtain ⟨m, hm⟩ : ∃ m, G.length = m := ⟨_, rfl⟩
    rw [hm] at hGs
    have hK64 : K ≤ 64 := by rw [hK]; exact need_le hx4
    have CG := Lib.hid (fun W h1 h2 => granL (n : Int) a0 K cap0 (Rst.pack x) G hG.symm W hkx (by omega) h1 h2)
    have CY := Lib.hid (fun A c W h1 h2 => granL (n : Int) A K c (Rst.pack y) G hgy W hky (by omega) h1 h2)
    have CW : Hid (∀ A c W, Ints W W.heap.size A G → Calls Tryd.prog 18 #[.int .i64 (n : Int), .slice A m c] W fun e w' => ∃ A' c', e = .returned (.tuple #[.agg #[.int .i64 (n : Int), .slice A' K c'], .int .i64 ((0 : Nat) : Int)]) ∧ Nums w' w'.heap.size A' (Rst.pack y) ∧ Below W.heap.size W w') := fun A c W h => by
      have h1 := within_any (n : Int) A m c W.heap.size G W hm (by omega) hGf h (Nat.le_refl _)
      rw [hw] at h1
      exact letters hky h1
    have CF := Lib.hid (fun W h1 => refFormed_any (n : Int) a0 K cap0 W.heap.size (Rst.pack x) W hkx (by omega) h1 (Nat.le_refl _))
    rw [hf] at CF
    have CA := andB hx4 x y hx hyl
    rw [hz, ← hK] at CA
    replace CA := Lib.hid CA
    have CS := sameB hx4 x x hx hx
    rw [← hK] at CS
    replace CS := Lib.hid CS
    have CI := Lib.hid (fun A1 A2 c1 c2 W h1 h2 => intsL A1 A2 m c1 c2 G hm hGs W h1 h2)
    rw [hm] at CG CY
    rw [← hK]
    unfold rval at CF
    have HK := Lib.hid hK64
    have HM := Lib.hid hGs
    clear hf hG hGI hGf hy hz hgy hw hK64 hGs hkx hky hm hK hyl
    have x0 := (RBox.new w (n : Int) a0 K cap0)
    have hbel : Below w.heap.size w (w.alloc (.cells #[.int .i64 (n : Int), .slice a0 K cap0] 24)) := by
      refine Below.alloc (Below.refl _ _) ?_ _ <;> (simp <;> omega)
    have r0 := (b0.below hbel).wide hbel.size
    have ht := ht.on hbel
    clear b0
    unfold rval
    go_enter Tryd.func5, Tryd.ntmps5
    go_wp2_with fail
    generalize (w.alloc (.cells #[.int .i64 (n : Int), .slice a0 K cap0] 24)) = w0 at *
    refine (rstAlive_any w0).mono ?_
    rintro e w1 ⟨rfl, hb⟩
    have x0 := x0.below hb x0.lt
    have r0 := (r0.below hb).wide hb.size
    have hbel := hbel.trans (hb.mono hbel.size)
    have ht := ht.on hb
    clear hb
    obtain ⟨c_x0_0, c_x0_1⟩ := x0.cell
    go_wp2_with fail
    refine (CG.out _ r0 ht).mono ?_
    rintro e w2 ⟨A3, c3, rfl, q3, hb⟩
    have x0 := x0.below hb x0.lt
    have r0 := (r0.below hb).wide hb.size
    have hbel := hbel.trans (hb.mono hbel.size)
    have ht := ht.on hb
    clear hb
    clear c_x0_0 c_x0_1
    obtain ⟨c_x0_0, c_x0_1⟩ := x0.cell
    go_wp2_with fail
    refine (CW.out _ _ _ q3).mono ?_
    rintro e w3 ⟨A4, c4, rfl, q4, hb⟩
    have x0 := x0.below hb x0.lt
    have r0 := (r0.below hb).wide hb.size
    have q3 := (q3.below hb).wide hb.size
    have hbel := hbel.trans (hb.mono hbel.size)
    have ht := ht.on hb
    clear hb
    have hbA : Below w3.heap.size w3 (w3.alloc (.cells #[.int .i64 (n : Int), .slice A4 K c4] 24)) := (Below.refl _ _).alloc (Nat.le_refl _) _
    have x4N := RBox.new w3 (n : Int) A4 K c4
    have x0 := x0.below hbA x0.lt
    have r0 := (r0.below hbA).wide hbA.size
    have q3 := (q3.below hbA).wide hbA.size
    have q4 := (q4.below hbA).wide hbA.size
    have hbel := hbel.trans (hbA.mono hbel.size)
    have ht := ht.on hbA
    obtain ⟨b_x4, hb_x4⟩ : ∃ b, b = w3.heap.size := ⟨_, rfl⟩
    rw [← hb_x4] at x4N
    have HB_x4 := Lib.hid hb_x4
    have x4 := x4N
    clear hbA x4N hb_x4
    clear c_x0_0 c_x0_1
    obtain ⟨c_x0_0, c_x0_1⟩ := x0.cell
    obtain ⟨c_x4_0, c_x4_1⟩ := x4.cell
    go_wp2_with fail
    generalize (w3.alloc (.cells #[.int .i64 (n : Int), .slice A4 K c4] 24)) = w4 at *
    rw [← HB_x4.out]
    refine (CF.out _ r0).mono ?_
    rintro e w5 ⟨rfl, hb⟩
    have x0 := x0.below hb x0.lt
    have x4 := x4.below hb x4.lt
    have r0 := (r0.below hb).wide hb.size
    have q3 := (q3.below hb).wide hb.size
    have q4 := (q4.below hb).wide hb.size
    have hbel := hbel.trans (hb.mono hbel.size)
    have ht := ht.on hb
    clear hb
    clear c_x0_0 c_x0_1 c_x4_0 c_x4_1
    obtain ⟨c_x0_0, c_x0_1⟩ := x0.cell
    obtain ⟨c_x4_0, c_x4_1⟩ := x4.cell
    go_wp2_with fail
    refine (CA.out _ _ _ _ _ r0 q4).mono ?_
    rintro e w6 ⟨A5, c5, rfl, q5, hb⟩
    have x0 := x0.below hb x0.lt
    have x4 := x4.below hb x4.lt
    have r0 := (r0.below hb).wide hb.size
    have q3 := (q3.below hb).wide hb.size
    have q4 := (q4.below hb).wide hb.size
    have hbel := hbel.trans (hb.mono hbel.size)
    have ht := ht.on hb
    clear hb
    have hbA : Below w6.heap.size w6 (w6.alloc (.cells #[.int .i64 (n : Int), .slice A5 K c5] 24)) := (Below.refl _ _).alloc (Nat.le_refl _) _
    have x5N := RBox.new w6 (n : Int) A5 K c5
    have x0 := x0.below hbA x0.lt
    have x4 := x4.below hbA x4.lt
    have r0 := (r0.below hbA).wide hbA.size
    have q3 := (q3.below hbA).wide hbA.size
    have q4 := (q4.below hbA).wide hbA.size
    have q5 := (q5.below hbA).wide hbA.size
    have hbel := hbel.trans (hbA.mono hbel.size)
    have ht := ht.on hbA
    obtain ⟨b_x5, hb_x5⟩ : ∃ b, b = w6.heap.size := ⟨_, rfl⟩
    rw [← hb_x5] at x5N
    have HB_x5 := Lib.hid hb_x5
    have x5 := x5N
    clear hbA x5N hb_x5
    clear c_x0_0 c_x0_1 c_x4_0 c_x4_1
    obtain ⟨c_x0_0, c_x0_1⟩ := x0.cell
    obtain ⟨c_x4_0, c_x4_1⟩ := x4.cell
    obtain ⟨c_x5_0, c_x5_1⟩ := x5.cell
    go_wp2_with fail
    generalize (w6.alloc (.cells #[.int .i64 (n : Int), .slice A5 K c5] 24)) = w7 at *
    rw [← HB_x5.out]
    refine (CS.out _ _ _ _ _ q5 r0 (by trivial)).mono ?_
    rintro e w8 ⟨rfl, hb⟩
    have x0 := x0.below hb x0.lt
    have x4 := x4.below hb x4.lt
    have x5 := x5.below hb x5.lt
    have r0 := (r0.below hb).wide hb.size
    have q3 := (q3.below hb).wide hb.size
    have q4 := (q4.below hb).wide hb.size
    have q5 := (q5.below hb).wide hb.size
    have hbel := hbel.trans (hb.mono hbel.size)
    have ht := ht.on hb
    clear hb
    clear c_x0_0 c_x0_1 c_x4_0 c_x4_1 c_x5_0 c_x5_1
    obtain ⟨c_x0_0, c_x0_1⟩ := x0.cell
    obtain ⟨c_x4_0, c_x4_1⟩ := x4.cell
    obtain ⟨c_x5_0, c_x5_1⟩ := x5.cell
    go_wp2_with fail
    refine (CY.out _ _ _ q4 ht).mono ?_
    rintro e w9 ⟨A6, c6, rfl, q6, hb⟩
    have x0 := x0.below hb x0.lt
    have x4 := x4.below hb x4.lt
    have x5 := x5.below hb x5.lt
    have r0 := (r0.below hb).wide hb.size
    have q3 := (q3.below hb).wide hb.size
    have q4 := (q4.below hb).wide hb.size
    have q5 := (q5.below hb).wide hb.size
    have hbel := hbel.trans (hb.mono hbel.size)
    have ht := ht.on hb
    clear hb
    clear c_x0_0 c_x0_1 c_x4_0 c_x4_1 c_x5_0 c_x5_1
    obtain ⟨c_x0_0, c_x0_1⟩ := x0.cell
    obtain ⟨c_x4_0, c_x4_1⟩ := x4.cell
    obtain ⟨c_x5_0, c_x5_1⟩ := x5.cell
    go_wp2_with fail
    refine (CI.out _ _ _ _ _ q6 q3).mono ?_
    rintro e w10 ⟨rfl, hb⟩
    have x0 := x0.below hb x0.lt
    have x4 := x4.below hb x4.lt
    have x5 := x5.below hb x5.lt
    have r0 := (r0.below hb).wide hb.size
    have q3 := (q3.below hb).wide hb.size
    have q4 := (q4.below hb).wide hb.size
    have q5 := (q5.below hb).wide hb.size
    have q6 := (q6.below hb).wide hb.size
    have hbel := hbel.trans (hb.mono hbel.size)
    have ht := ht.on hb
    clear hb
    clear c_x0_0 c_x0_1 c_x4_0 c_x4_1 c_x5_0 c_x5_1
    go_wp2
    go_ret
    exact ⟨rfl, hbel⟩
  · skip
    have CG := Lib.hid (fun W h1 h2 => granL N0 a0 n0 cap0 l0 [] (gran_none hf) W e0 hn0 h1 h2)
    obtain ⟨M, ws, k, ε, hws, CW⟩ : ∃ (M : Int) (ws : List UInt64) (k ε : Nat), ws.length = k ∧ Hid (∀ A c W, Ints W W.heap.size A [] → Calls Tryd.prog 18 #[.int .i64 N0, .slice A 0 c] W fun e w' => ∃ A' c', e = .returned (.tuple #[.agg #[.int .i64 M, .slice A' k c'], .int .i64 (ε : Int)]) ∧ Nums w' w'.heap.size A' ws ∧ Below W.heap.size W w') :=
      ⟨_, _, _, _, rfl, fun A c W h => letters rfl (within_any N0 A 0 c W.heap.size [] W rfl (by omega) (fun _ h => by cases h) h (Nat.le_refl _))⟩
    have CF := Lib.hid (fun W h1 => refFormed_any N0 a0 n0 cap0 W.heap.size l0 W e0 (by omega) h1 (Nat.le_refl _))
    rw [Bool.not_eq_true] at hf
    rw [hf] at CF
    simp only [List.length_nil] at CG
    clear hf e0
    have x0 := (RBox.new w N0 a0 n0 cap0)
    have hbel : Below w.heap.size w (w.alloc (.cells #[.int .i64 N0, .slice a0 n0 cap0] 24)) := by
      refine Below.alloc (Below.refl _ _) ?_ _ <;> (simp <;> omega)
    have r0 := (b0.below hbel).wide hbel.size
    have ht := ht.on hbel
    clear b0
    unfold rval
    go_enter Tryd.func5, Tryd.ntmps5
    go_wp2_with fail
    generalize (w.alloc (.cells #[.int .i64 N0, .slice a0 n0 cap0] 24)) = w0 at *
    refine (rstAlive_any w0).mono ?_
    rintro e w1 ⟨rfl, hb⟩
    have x0 := x0.below hb x0.lt
    have r0 := (r0.below hb).wide hb.size
    have hbel := hbel.trans (hb.mono hbel.size)
    have ht := ht.on hb
    clear hb
    obtain ⟨c_x0_0, c_x0_1⟩ := x0.cell
    go_wp2_with fail
    refine (CG.out _ r0 ht).mono ?_
    rintro e w2 ⟨A3, c3, rfl, q3, hb⟩
    have x0 := x0.below hb x0.lt
    have r0 := (r0.below hb).wide hb.size
    have hbel := hbel.trans (hb.mono hbel.size)
    have ht := ht.on hb
    clear hb
    clear c_x0_0 c_x0_1
    obtain ⟨c_x0_0, c_x0_1⟩ := x0.cell
    go_wp2_with fail
    refine (CW.out _ _ _ q3).mono ?_
    rintro e w3 ⟨A4, c4, rfl, q4, hb⟩
    have x0 := x0.below hb x0.lt
    have r0 := (r0.below hb).wide hb.size
    have q3 := (q3.below hb).wide hb.size
    have hbel := hbel.trans (hb.mono hbel.size)
    have ht := ht.on hb
    clear hb
    have hbA : Below w3.heap.size w3 (w3.alloc (.cells #[.int .i64 M, .slice A4 k c4] 24)) := (Below.refl _ _).alloc (Nat.le_refl _) _
    have x4N := RBox.new w3 M A4 k c4
    have x0 := x0.below hbA x0.lt
    have r0 := (r0.below hbA).wide hbA.size
    have q3 := (q3.below hbA).wide hbA.size
    have q4 := (q4.below hbA).wide hbA.size
    have hbel := hbel.trans (hbA.mono hbel.size)
    have ht := ht.on hbA
    obtain ⟨b_x4, hb_x4⟩ : ∃ b, b = w3.heap.size := ⟨_, rfl⟩
    rw [← hb_x4] at x4N
    have HB_x4 := Lib.hid hb_x4
    have x4 := x4N
    clear hbA x4N hb_x4
    clear c_x0_0 c_x0_1
    obtain ⟨c_x0_0, c_x0_1⟩ := x0.cell
    obtain ⟨c_x4_0, c_x4_1⟩ := x4.cell
    go_wp2_with fail
    generalize (w3.alloc (.cells #[.int .i64 M, .slice A4 k c4] 24)) = w4 at *
    rw [← HB_x4.out]
    unfold rval at CF
    refine (CF.out _ r0).mono ?_
    rintro e w5 ⟨rfl, hb⟩
    have x0 := x0.below hb x0.lt
    have x4 := x4.below hb x4.lt
    have r0 := (r0.below hb).wide hb.size
    have q3 := (q3.below hb).wide hb.size
    have q4 := (q4.below hb).wide hb.size
    have hbel := hbel.trans (hb.mono hbel.size)
    have ht := ht.on hb
    clear hb
    clear c_x0_0 c_x0_1 c_x4_0 c_x4_1
    go_wp2
    go_ret
    exact ⟨rfl, hbel⟩
/-- from the walk to the post of the row -/
theorem contract (H : Type) (enc : TypeId × Value → H) (W : World) (base : Nat) (args : Array Value) (ds gs : List (DataW H)) (before : List MemPlace)
    (hval : ∀ (j : Nat) t v, Tryd.f5.params[j]? = some t → args[j]? = some v → Value.okWide Tryd.prog W .any base t v)
    (hW : DataW.Whole enc Tryd.prog Tryd.f5.params.toList Rows.rowsetCoversSpec.vars false W args.toList ds gs before) (hL : laidMetH Tryd.prog Rows.rowsetCoversRow.laid W)
    (hsz0 : (DataW.weightsEach Tryd.prog (Tryd.f5.params.toList ++ Rows.rowsetCoversSpec.plain.varTypes Tryd.prog) (ds ++ gs)).all (· ≤ reachBytes) = true) :
    Calls Tryd.prog 5 args W fun e W' => ∃ v, e = .returned v ∧ Rows.rowsetCoversSpec.post enc Tryd.prog Tryd.f5 false true false false W args v W' := by
  have hW' := hW
  obtain ⟨p, q, hA0, hV, rfl, hfz, hnd⟩ := hW
  have hA : DataW.TrodAll enc Tryd.prog W 0 (fun _ => true) true Tryd.f5.params.toList args.toList ds p := hA0
  rw [Tryd.params5] at hA hval hsz0
  obtain ⟨v0, vs0, d0, ds0, p0, q0, hargs, rfl, rfl, h0, r0⟩ := trodAll_cons hA
  obtain ⟨rfl, rfl, rfl⟩ := trodAll_nil r0
  obtain rfl : args = #[v0] := by cases args; simp_all
  obtain ⟨rfl, rfl⟩ := trodVars_none hV
  have lt0 : ∀ x ∈ p0, x.block < W.heap.size := by obtain ⟨m, hm⟩ := h0; exact DataW.trod_lt m _ _ _ hm
  obtain ⟨N0, a0, len0, cap0, l0, rfl, na0, nb0, e0, ec0, b0, dd0, de0, k0⟩ := open_rows (hval 0 24 v0 rfl rfl) h0
  have reach0 := reach_rows hsz0 (j := 0) rfl rfl de0 k0
  clear hA0
  refine (walk N0 a0 len0 cap0 l0 W na0 nb0 e0 ec0 reach0 b0 (vars hL)).mono fun e W' ⟨he, bel⟩ => ?_
  subst he
  exact ⟨_, rfl, _, _, _, [], _, [], hW', trodAll_mk1 (shut_bool Tryd.underlying4 _), (trodAll_cons_mk (Below.trod laidOut (by kernel_rfl) (of_decide_eq_true (by kernel_rfl)) h0 bel lt0) trodAll_mk0), rfl, bel.frame _, fun h => by cases h⟩

theorem laid_met (os : Os) : laidMet Tryd.prog Rows.rowsetCoversRow.laid ((laidWorld os).forCall (fun _ _ => 0) ⟨#[], #[.agg #[.int .i64 0, .slice none 0 0]], []⟩).memory :=
  laidMet_of_run' 8 (by kernel_rfl) (by kernel_rfl)
theorem reads (os : Os) {H : Type} (enc : TypeId × Value → H) : ∃ places, DataW.whole enc Tryd.prog ((laidWorld os).forCall (fun _ _ => 0) ⟨#[], #[.agg #[.int .i64 0, .slice none 0 0]], []⟩).memory Tryd.f5.params.toList Rows.rowsetCoversSpec.vars false #[Value.agg #[.int .i64 0, .slice none 0 0]].toList 8 = some ([.agg [.lit (.int .i64 0), .nil]], [], places) :=
  ⟨[], by kernel_rfl⟩

set_option maxRecDepth 100000 in
theorem lifted (os : Os) (started : os.Started) (H : Type) (enc : TypeId × Value → H) (F : Stop.Interp) :
    ReturnsInHanded {} Tryd.checked os 5 .any ((OpenSpec.ofChange Rows.rowsetCoversSpec).preRow enc Tryd.prog Tryd.f5 Rows.rowsetCoversRow.domain false Rows.rowsetCoversRow.laid) (((OpenSpec.ofChange Rows.rowsetCoversSpec).at F).post enc Tryd.prog Tryd.f5 false true false false) := by
  obtain ⟨places, hx⟩ := reads os enc
  refine returnsInHanded_of_row (C := Tryd.checked) (s := OpenSpec.ofChange Rows.rowsetCoversSpec) own started (by kernel_rfl) Tryd.func5
    (witness_row_at (enc := enc) (C := Tryd.checked) false (laidWorld os) #[.agg #[.int .i64 0, .slice none 0 0]] rfl (by kernel_rfl) (by kernel_rfl) (by kernel_rfl)
      (OpenSpec.preRow_of_cond 8 hx (by kernel_rfl) (fun k hk => by cases hk) (by kernel_rfl) (laid_met os))) ?_
  intro W base args ds gs before hval hW _ _ hsz hL _ _
  exact contract H enc W base args ds gs before hval hW hL hsz

theorem said : Rows.RowsetCoversSaid :=
  OpenClaim.holds_of_cond 5 Tryd.f5 rfl rfl rfl rfl rfl rfl rfl ⟨rfl, rfl, rfl, rfl, rfl⟩ rfl rfl rfl rfl rfl (by kernel_rfl) Tryd.func5 (by kernel_rfl)
    (of_decide_eq_true (by kernel_rfl)) (by unfold Func.isWrapper; first | (rw [if_pos (by decide +kernel)]; kernel_rfl) | (rw [if_neg (by decide +kernel)]; exact ⟨rfl, rfl⟩))
    (fun os started H enc _ F => by rw [OpenClaim.pre_eq_preRow]; exact lifted os started H enc F)

theorem plain (f : FuncId) (fn : Func) (hf : Tryd.pinned.checked.prog.funcNamed "dragnet/dragnetlaw09.RowsetCovers" = some f) (hfn : Tryd.pinned.checked.prog.funcs[f]? = some fn) :
    false = Tryd.pinned.checked.prog.looks [] ∧ ∀ (j : Nat) t, fn.params[j]? = some t → Tryd.pinned.checked.prog.wantsStandIn t = false := by
  obtain rfl : f = 5 := Option.some.inj ((show Tryd.prog.funcNamed "dragnet/dragnetlaw09.RowsetCovers" = some 5 by kernel_rfl).symm.trans hf) |>.symm
  obtain rfl : fn = Tryd.f5 := (Option.some.inj (Tryd.func5.symm.trans hfn)).symm
  refine ⟨by kernel_rfl, fun j t ht => ?_⟩
  rw [Tryd.params5] at ht
  obtain rfl : t = 24 := by simpa using Array.mem_of_getElem? ht
  exact (show Tryd.prog.wantsStandIn 24 = false by kernel_rfl)

/-- THE CARD -/
theorem card : Rows.RowsetCoversCardSaid :=
  Claim7.holds_tied_plain_at .later [] _ _ _ _ said (fun _ h => by cases h) (by kernel_rfl) (fun _ h => by cases h) rowsetCovers_row_tie rfl ⟨rfl, rfl⟩ (by kernel_rfl) rfl plain (by kernel_rfl)
end Go.Proofs.YtggelnlbdpdegaaDoor.rowsetCovers
