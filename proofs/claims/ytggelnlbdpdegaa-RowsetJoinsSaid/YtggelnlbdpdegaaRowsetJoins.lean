/- PROVED: the law RowsetJoins (what any two sets have together, in one of them, and the first alone, is the document's, or refused, and the sets stay) returns true and leaves its arguments as they were, for every argument.
   Conditions: none but the form's own reach (a slice has fewer than 2^47 bytes). -/
import Derived.Test.YtggelnlbdpdegaaRstArg
import Derived.Test.YtggelnlbdpdegaaRstUni
import Derived.Test.YtggelnlbdpdegaaRstAnd
import Derived.Test.YtggelnlbdpdegaaRstOr
import Derived.Test.YtggelnlbdpdegaaRstMinus
import Derived.Test.YtggelnlbdpdegaaRstJ0
import Derived.Test.YtggelnlbdpdegaaRstJ1
import Derived.Test.YtggelnlbdpdegaaRstJ2
import Derived.Test.YtggelnlbdpdegaaRstJE
namespace Go.Proofs.Ytggelnlbdpdegaa.rowsetJoins
open Go.ChangeShapes Go.WideShapes Go.ChangeAt Go.RowKit
set_option maxRecDepth 100000

/-- another set in the box -/
theorem set2 {w : World} {b n c : Nat} {N : Int} {A : Option Addr} (h : RBox w b N A n c) (N' : Int) (A' : Option Addr) (n' c' : Nat) : RBox ((w.setCell ⟨b, 0, none⟩ (.int .i64 N')).setCell ⟨b, 1, none⟩ (.slice A' n' c')) b N' A' n' c' := by
  unfold RBox at *
  simp only [World.setCell, Array.getElem?_modify, h]
  simp
theorem grown_two (w : World) (b : Nat) (u v : Value) : w.grownBy ((w.setCell ⟨b, 0, none⟩ u).setCell ⟨b, 1, none⟩ v) (some b) := Lib.grownBy_setB (Lib.grownBy_setB (World.grownBy.refl w (some b)) 0 u) 1 v
theorem sameL (M : Int) (ws : List UInt64) (k : Nat) (hk : ws.length = k) (h : 8 * k ≤ 140737488351232) (A1 A2 : Option Addr) (c1 c2 : Nat) (W : World) (h1 : Nums W W.heap.size A1 ws) (h2 : Nums W W.heap.size A2 ws) :
    Calls Try.prog 13 #[.agg #[.int .i64 M, .slice A1 k c1], .agg #[.int .i64 M, .slice A2 k c2]] W fun e w' => e = .returned (.bool true) ∧ Below W.heap.size W w' := by
  have h := same_any M M A1 A2 k k c1 c2 W.heap.size W.heap.size ws ws W hk hk (by omega) (by omega) h1 h2 (Nat.le_refl _) (Nat.le_refl _)
  rw [decide_eq_true ⟨rfl, rfl⟩] at h
  exact h

set_option maxHeartbeats 4000000 in
theorem walk (N0 : Int) (a0 : Option Addr) (n0 cap0 : Nat) (l0 : List UInt64) (N1 : Int) (a1 : Option Addr) (n1 cap1 : Nat) (l1 : List UInt64) (w : World)
    (_na0 : -9223372036854775808 ≤ N0) (_nb0 : N0 ≤ 9223372036854775807) (e0 : l0.length = n0) (_ec0 : n0 ≤ cap0) (hn0 : 8 * n0 ≤ 140737488351232) (b0 : Nums w w.heap.size a0 l0)
    (_na1 : -9223372036854775808 ≤ N1) (_nb1 : N1 ≤ 9223372036854775807) (e1 : l1.length = n1) (_ec1 : n1 ≤ cap1) (hn1 : 8 * n1 ≤ 140737488351232) (b1 : Nums w w.heap.size a1 l1) :
    Calls Try.prog 4 #[rval N0 a0 n0 cap0, rval N1 a1 n1 cap1] w fun e w' => e = .returned (.bool true) ∧ Below w.heap.size w w' := by
  have x0 := ((RBox.new w N0 a0 n0 cap0).alloc (.cells #[.int .i64 N1, .slice a1 n1 cap1] 26))
  have x1 := (RBox.new (w.alloc (.cells #[.int .i64 N0, .slice a0 n0 cap0] 26)) N1 a1 n1 cap1)
  have hbel : Below w.heap.size w ((w.alloc (.cells #[.int .i64 N0, .slice a0 n0 cap0] 26)).alloc (.cells #[.int .i64 N1, .slice a1 n1 cap1] 26)) := by
    refine Below.alloc (Below.alloc (Below.refl _ _) ?_ _) ?_ _ <;> (simp <;> omega)
  rw [show (w.alloc (.cells #[.int .i64 N0, .slice a0 n0 cap0] 26)).heap.size = w.heap.size + 1 by simp] at x1
  have r0 := (b0.below hbel).wide hbel.size
  have r1 := (b1.below hbel).wide hbel.size
  have C1 : Hid (∀ W, Nums W W.heap.size a0 l0 → Calls Try.prog 15 #[.agg #[.int .i64 N0, .slice a0 n0 cap0]] W fun e w' => ∃ A' c', e = .returned (.agg #[.int .i64 N0, .slice A' n0 c']) ∧ NOwn w' W.heap.size A' n0 c' l0 ∧ Below W.heap.size W w') :=
    fun W h => copy_any N0 a0 n0 cap0 W.heap.size l0 W e0 hn0 h (Nat.le_refl _)
  have C2 : Hid (∀ W, Nums W W.heap.size a1 l1 → Calls Try.prog 15 #[.agg #[.int .i64 N1, .slice a1 n1 cap1]] W fun e w' => ∃ A' c', e = .returned (.agg #[.int .i64 N1, .slice A' n1 c']) ∧ NOwn w' W.heap.size A' n1 c' l1 ∧ Below W.heap.size W w') :=
    fun W h => copy_any N1 a1 n1 cap1 W.heap.size l1 W e1 hn1 h (Nat.le_refl _)
  unfold rval
  go_enter Try.func4, Try.ntmps4
  go_wp2_with fail
  generalize ((w.alloc (.cells #[.int .i64 N0, .slice a0 n0 cap0] 26)).alloc (.cells #[.int .i64 N1, .slice a1 n1 cap1] 26)) = w0 at *
  refine (rstAlive_any w0).mono ?_
  rintro e w1 ⟨rfl, hb⟩
  have x0 := x0.below hb x0.lt
  have x1 := x1.below hb x1.lt
  have r0 := (r0.below hb).wide hb.size
  have r1 := (r1.below hb).wide hb.size
  have hbel := hbel.trans (hb.mono hbel.size)
  clear hb
  obtain ⟨c_x0_0, c_x0_1⟩ := x0.cell
  obtain ⟨c_x1_0, c_x1_1⟩ := x1.cell
  go_wp2_with fail
  have HK := Lib.hid (fun W' (h : Below w1.heap.size w1 W') =>
    (⟨(x0.below h x0.lt).cell.1, (x0.below h x0.lt).cell.2, (x1.below h x1.lt).cell.1, (x1.below h x1.lt).cell.2⟩ : W'.cell? ⟨w.heap.size, 0, none⟩ = some (.int .i64 N0) ∧ W'.cell? ⟨w.heap.size, 1, none⟩ = some (.slice a0 n0 cap0) ∧ W'.cell? ⟨w.heap.size + 1, 0, none⟩ = some (.int .i64 N1) ∧ W'.cell? ⟨w.heap.size + 1, 1, none⟩ = some (.slice a1 n1 cap1)))
  refine wp_mono (Q := fun e a' W' => e = .normal ∧ ∃ (A5 A6 : Option Addr) (c5 c6 b5 b6 : Nat), a' = { tmps := #[.agg #[.int .i64 N0, .slice a0 n0 cap0], .agg #[.int .i64 N1, .slice a1 n1 cap1], .pointer (some ⟨w.heap.size, 0, none⟩), .pointer (some ⟨w.heap.size + 1, 0, none⟩), .bool false, .pointer (some ⟨b5, 0, none⟩), .pointer (some ⟨b6, 0, none⟩), undef, undef, undef, undef, undef, undef, undef, undef, undef, undef, undef, undef, .bool true, .bool false, .agg #[.int .i64 N0, .slice a0 n0 cap0], .agg #[.int .i64 N0, .slice A5 n0 c5], .agg #[.int .i64 N1, .slice a1 n1 cap1], .agg #[.int .i64 N1, .slice A6 n1 c6], undef, undef, undef, undef, undef, undef, undef, undef, undef, undef, undef, undef, undef, undef, undef, undef, undef, undef, undef, undef, undef, undef, undef, undef, undef, undef, undef, undef, undef, undef, undef, undef, undef, undef, undef, undef, undef, undef, undef, undef, undef, undef, undef, undef, undef, undef, undef, undef, undef, undef, undef, undef, undef, undef, undef, undef, undef, undef, undef, undef, undef, undef, undef, undef, undef, undef, undef, undef, undef, undef, undef, undef, undef, undef], defers := [] } ∧ RBox W' b5 N0 A5 n0 c5 ∧ RBox W' b6 N1 A6 n1 c6 ∧ Nums W' W'.heap.size A5 l0 ∧ Nums W' W'.heap.size A6 l1 ∧ Below w1.heap.size w1 W') ?_ ?_
  · have hBel : Below w1.heap.size w1 w1.drew := (Below.refl _ _).drew
    refine wp_region_held_drew (S := fun W' => W'.cell? ⟨w.heap.size, 0, none⟩ = some (.int .i64 N0) ∧ W'.cell? ⟨w.heap.size, 1, none⟩ = some (.slice a0 n0 cap0) ∧ W'.cell? ⟨w.heap.size + 1, 0, none⟩ = some (.int .i64 N1) ∧ W'.cell? ⟨w.heap.size + 1, 1, none⟩ = some (.slice a1 n1 cap1)) (by kernel_rfl) (HK.out _ hBel) (fun hHeld => ?_)
    change wpAnyH _ _ _ _ _ 8 #[false, false, false, false, false, false, false, false] _ _
    generalize w1.drew = v0 at *
    refine wpAnyH_take (i := 0) (oi := { dst := some 21, op := _, type := _, pos := _, after := _, guard := _ }) (v := (.agg #[.int .i64 N0, .slice a0 n0 cap0])) rfl (by kernel_rfl) (by kernel_rfl) (by kernel_rfl) (fun _ _ _ h => by cases h.1) (Or.inl ⟨by rfl, by intro w hSw; (try dsimp only at hSw); go_simp⟩) (by assumption) ?_
    simp only [Act.put, List.setIfInBounds_toArray, List.set_cons_zero, List.set_cons_succ]
    refine wpAnyH_take (i := 2) (oi := { dst := some 23, op := _, type := _, pos := _, after := _, guard := _ }) (v := (.agg #[.int .i64 N1, .slice a1 n1 cap1])) rfl (by kernel_rfl) (by kernel_rfl) (by kernel_rfl) (fun _ _ _ h => by cases h.1) (Or.inl ⟨by rfl, by intro w hSw; (try dsimp only at hSw); go_simp⟩) (by assumption) ?_
    simp only [Act.put, List.setIfInBounds_toArray, List.set_cons_zero, List.set_cons_succ]
    refine wpAnyH_ready (rs := [1, 4, 5]) (by kernel_rfl) (by simp) ?_
    refine AllReadyH.cons (o := { dst := some 22, op := _, type := _, pos := _, after := _, guard := _ }) rfl (fun KK hK => ?_) ?_
    · go_simp
      refine (C1.out _ ((r0.below hBel).wide hBel.size)).mono ?_
      rintro e v1 ⟨A5, c5, rfl, o5, hs⟩
      go_wp2_with fail
      replace hBel := hBel.trans (hs.mono hBel.size)
      clear hs
      refine hK.out _ _ (HK.out _ hBel) (fun hHeld => ?_)
      clear hK KK
      simp only [List.setIfInBounds_toArray, List.set_cons_zero, List.set_cons_succ]
      refine wpAnyH_ready (rs := [3, 4, 5]) (by kernel_rfl) (by simp) ?_
      refine AllReadyH.cons (o := { dst := some 24, op := _, type := _, pos := _, after := _, guard := _ }) rfl (fun KK hK => ?_) ?_
      · go_simp
        refine (C2.out _ ((r1.below hBel).wide hBel.size)).mono ?_
        rintro e v2 ⟨A6, c6, rfl, o6, hs⟩
        go_wp2_with fail
        replace o5 := o5.kept ⟨hs.os, hs.tape, hs.output, hs.size, fun q hq _ => hs.block q hq⟩ (.inr (show blk A5 ≠ some v1.heap.size from fun e => by have := (o5.lt e).2; omega))
        replace hBel := hBel.trans (hs.mono hBel.size)
        clear hs
        refine hK.out _ _ (HK.out _ hBel) (fun hHeld => ?_)
        clear hK KK
        simp only [List.setIfInBounds_toArray, List.set_cons_zero, List.set_cons_succ]
        refine wpAnyH_ready (rs := [4, 5]) (by kernel_rfl) (by simp) ?_
        refine AllReadyH.cons (o := { dst := some 5, op := _, type := _, pos := _, after := _, guard := _ }) rfl (fun KK hK => ?_) ?_
        · obtain ⟨b5, hbb5⟩ : ∃ b, b = v2.heap.size := ⟨_, rfl⟩
          have hs : Below v2.heap.size v2 (v2.alloc (.cells #[.int .i64 0, .slice none 0 0] 26)) := (Below.refl _ _).alloc (Nat.le_refl _) _
          have hb5 := RBox.new v2 0 none 0 0
          rw [← hbb5] at hb5
          go_simp
          have b5_ : w1.heap.size ≤ b5 := by have := hBel.size; omega
          have m55 : blk A5 ≠ some b5 := fun e => by have := (o5.lt e).2; omega
          have m65 : blk A6 ≠ some b5 := fun e => by have := (o6.lt e).2; omega
          rw [← hbb5]
          generalize v2.alloc (.cells #[.int .i64 0, .slice none 0 0] 26) = v3 at *
          clear hbb5
          replace o5 := o5.kept ⟨hs.os, hs.tape, hs.output, hs.size, fun q hq _ => hs.block q hq⟩ (.inr (show blk A5 ≠ some v2.heap.size from fun e => by have := (o5.lt e).2; omega))
          replace o6 := o6.kept ⟨hs.os, hs.tape, hs.output, hs.size, fun q hq _ => hs.block q hq⟩ (.inr (show blk A6 ≠ some v2.heap.size from fun e => by have := (o6.lt e).2; omega))
          replace hBel := hBel.trans (hs.mono hBel.size)
          clear hs
          refine hK.out _ _ (HK.out _ hBel) (fun hHeld => ?_)
          clear hK KK
          simp only [List.setIfInBounds_toArray, List.set_cons_zero, List.set_cons_succ]
          refine wpAnyH_ready (rs := [5]) (by kernel_rfl) (by simp) ?_
          refine AllReadyH.cons (o := { dst := some 6, op := _, type := _, pos := _, after := _, guard := _ }) rfl (fun KK hK => ?_) ?_
          · obtain ⟨b6, hbb6⟩ : ∃ b, b = v3.heap.size := ⟨_, rfl⟩
            have hs : Below v3.heap.size v3 (v3.alloc (.cells #[.int .i64 0, .slice none 0 0] 26)) := (Below.refl _ _).alloc (Nat.le_refl _) _
            have hb6 := RBox.new v3 0 none 0 0
            rw [← hbb6] at hb6
            go_simp
            have b6_ : w1.heap.size ≤ b6 := by have := hBel.size; omega
            have m56 : blk A5 ≠ some b6 := fun e => by have := (o5.lt e).2; omega
            have m66 : blk A6 ≠ some b6 := fun e => by have := (o6.lt e).2; omega
            have hne : b5 ≠ b6 := by have := hb5.lt; omega
            rw [← hbb6]
            generalize v3.alloc (.cells #[.int .i64 0, .slice none 0 0] 26) = v4 at *
            clear hbb6
            replace o5 := o5.kept ⟨hs.os, hs.tape, hs.output, hs.size, fun q hq _ => hs.block q hq⟩ (.inr (show blk A5 ≠ some v3.heap.size from fun e => by have := (o5.lt e).2; omega))
            replace o6 := o6.kept ⟨hs.os, hs.tape, hs.output, hs.size, fun q hq _ => hs.block q hq⟩ (.inr (show blk A6 ≠ some v3.heap.size from fun e => by have := (o6.lt e).2; omega))
            replace hb5 := hb5.below hs hb5.lt
            replace hBel := hBel.trans (hs.mono hBel.size)
            clear hs
            refine hK.out _ _ (HK.out _ hBel) (fun hHeld => ?_)
            clear hK KK
            simp only [List.setIfInBounds_toArray, List.set_cons_zero, List.set_cons_succ]
            have n5 : ∀ q, (q = b5 ∨ q = b6) → blk A5 ≠ some q := fun q hq => by rcases hq with h | h <;> rw [h]; exact m55; exact m56
            have n6 : ∀ q, (q = b5 ∨ q = b6) → blk A6 ≠ some q := fun q hq => by rcases hq with h | h <;> rw [h]; exact m65; exact m66
            refine wpAnyH_ready (rs := [6]) (by kernel_rfl) (by simp) ?_
            refine AllReadyH.cons (o := { dst := none, op := _, type := _, pos := _, after := _, guard := _ }) rfl (fun KK hK => ?_) ?_
            · have s0 := hb5.cell.1
              have s1 := hb5.cell.2
              have g0 := hb5.free 0
              have g1 := hb5.free 1
              have hgr := grown_two v4 b5 (.int .i64 N0) (.slice A5 n0 c5)
              replace hb5 := set2 hb5 N0 A5 n0 c5
              replace hb6 := hb6.grown hgr (fun e => by injection e with e; omega)
              replace o5 := o5.kept hgr (.inr (n5 _ (.inl rfl)))
              replace o6 := o6.kept hgr (.inr (n6 _ (.inl rfl)))
              replace hBel := hBel.grown hgr hBel.size (fun j hj => by injection hj with hj; omega)
              go_simp
              clear s0 s1 g0 g1 hgr
              generalize ((v4.setCell ⟨b5, 0, none⟩ (.int .i64 N0)).setCell ⟨b5, 1, none⟩ (.slice A5 n0 c5)) = e6 at *
              refine hK.out _ _ (HK.out _ hBel) (fun hHeld => ?_)
              clear hK KK
              simp only [List.setIfInBounds_toArray, List.set_cons_zero, List.set_cons_succ]
              refine wpAnyH_ready (rs := [7]) (by kernel_rfl) (by simp) ?_
              refine AllReadyH.cons (o := { dst := none, op := _, type := _, pos := _, after := _, guard := _ }) rfl (fun KK hK => ?_) ?_
              · have s0 := hb6.cell.1
                have s1 := hb6.cell.2
                have g0 := hb6.free 0
                have g1 := hb6.free 1
                have hgr := grown_two e6 b6 (.int .i64 N1) (.slice A6 n1 c6)
                replace hb6 := set2 hb6 N1 A6 n1 c6
                replace hb5 := hb5.grown hgr (fun e => by injection e with e; omega)
                replace o5 := o5.kept hgr (.inr (n5 _ (.inr rfl)))
                replace o6 := o6.kept hgr (.inr (n6 _ (.inr rfl)))
                replace hBel := hBel.grown hgr hBel.size (fun j hj => by injection hj with hj; omega)
                go_simp
                clear s0 s1 g0 g1 hgr
                generalize ((e6.setCell ⟨b6, 0, none⟩ (.int .i64 N1)).setCell ⟨b6, 1, none⟩ (.slice A6 n1 c6)) = e7 at *
                refine hK.out _ _ (HK.out _ hBel) (fun hHeld => ?_)
                clear hK KK
                simp only [List.setIfInBounds_toArray, List.set_cons_zero, List.set_cons_succ]
                refine wpAnyH_done (by kernel_rfl) ?_ _
                exact ⟨rfl, A5, A6, c5, c6, b5, b6, rfl, hb5, hb6, o5.row, o6.row, hBel⟩
              exact AllReadyH.nil
            exact AllReadyH.nil
          exact AllReadyH.nil
        refine AllReadyH.cons (o := { dst := some 6, op := _, type := _, pos := _, after := _, guard := _ }) rfl (fun KK hK => ?_) ?_
        · obtain ⟨b6, hbb6⟩ : ∃ b, b = v2.heap.size := ⟨_, rfl⟩
          have hs : Below v2.heap.size v2 (v2.alloc (.cells #[.int .i64 0, .slice none 0 0] 26)) := (Below.refl _ _).alloc (Nat.le_refl _) _
          have hb6 := RBox.new v2 0 none 0 0
          rw [← hbb6] at hb6
          go_simp
          have b6_ : w1.heap.size ≤ b6 := by have := hBel.size; omega
          have m56 : blk A5 ≠ some b6 := fun e => by have := (o5.lt e).2; omega
          have m66 : blk A6 ≠ some b6 := fun e => by have := (o6.lt e).2; omega
          rw [← hbb6]
          generalize v2.alloc (.cells #[.int .i64 0, .slice none 0 0] 26) = v3 at *
          clear hbb6
          replace o5 := o5.kept ⟨hs.os, hs.tape, hs.output, hs.size, fun q hq _ => hs.block q hq⟩ (.inr (show blk A5 ≠ some v2.heap.size from fun e => by have := (o5.lt e).2; omega))
          replace o6 := o6.kept ⟨hs.os, hs.tape, hs.output, hs.size, fun q hq _ => hs.block q hq⟩ (.inr (show blk A6 ≠ some v2.heap.size from fun e => by have := (o6.lt e).2; omega))
          replace hBel := hBel.trans (hs.mono hBel.size)
          clear hs
          refine hK.out _ _ (HK.out _ hBel) (fun hHeld => ?_)
          clear hK KK
          simp only [List.setIfInBounds_toArray, List.set_cons_zero, List.set_cons_succ]
          refine wpAnyH_ready (rs := [4]) (by kernel_rfl) (by simp) ?_
          refine AllReadyH.cons (o := { dst := some 5, op := _, type := _, pos := _, after := _, guard := _ }) rfl (fun KK hK => ?_) ?_
          · obtain ⟨b5, hbb5⟩ : ∃ b, b = v3.heap.size := ⟨_, rfl⟩
            have hs : Below v3.heap.size v3 (v3.alloc (.cells #[.int .i64 0, .slice none 0 0] 26)) := (Below.refl _ _).alloc (Nat.le_refl _) _
            have hb5 := RBox.new v3 0 none 0 0
            rw [← hbb5] at hb5
            go_simp
            have b5_ : w1.heap.size ≤ b5 := by have := hBel.size; omega
            have m55 : blk A5 ≠ some b5 := fun e => by have := (o5.lt e).2; omega
            have m65 : blk A6 ≠ some b5 := fun e => by have := (o6.lt e).2; omega
            have hne : b5 ≠ b6 := by have := hb6.lt; omega
            rw [← hbb5]
            generalize v3.alloc (.cells #[.int .i64 0, .slice none 0 0] 26) = v4 at *
            clear hbb5
            replace o5 := o5.kept ⟨hs.os, hs.tape, hs.output, hs.size, fun q hq _ => hs.block q hq⟩ (.inr (show blk A5 ≠ some v3.heap.size from fun e => by have := (o5.lt e).2; omega))
            replace o6 := o6.kept ⟨hs.os, hs.tape, hs.output, hs.size, fun q hq _ => hs.block q hq⟩ (.inr (show blk A6 ≠ some v3.heap.size from fun e => by have := (o6.lt e).2; omega))
            replace hb6 := hb6.below hs hb6.lt
            replace hBel := hBel.trans (hs.mono hBel.size)
            clear hs
            refine hK.out _ _ (HK.out _ hBel) (fun hHeld => ?_)
            clear hK KK
            simp only [List.setIfInBounds_toArray, List.set_cons_zero, List.set_cons_succ]
            have n5 : ∀ q, (q = b5 ∨ q = b6) → blk A5 ≠ some q := fun q hq => by rcases hq with h | h <;> rw [h]; exact m55; exact m56
            have n6 : ∀ q, (q = b5 ∨ q = b6) → blk A6 ≠ some q := fun q hq => by rcases hq with h | h <;> rw [h]; exact m65; exact m66
            refine wpAnyH_ready (rs := [6]) (by kernel_rfl) (by simp) ?_
            refine AllReadyH.cons (o := { dst := none, op := _, type := _, pos := _, after := _, guard := _ }) rfl (fun KK hK => ?_) ?_
            · have s0 := hb5.cell.1
              have s1 := hb5.cell.2
              have g0 := hb5.free 0
              have g1 := hb5.free 1
              have hgr := grown_two v4 b5 (.int .i64 N0) (.slice A5 n0 c5)
              replace hb5 := set2 hb5 N0 A5 n0 c5
              replace hb6 := hb6.grown hgr (fun e => by injection e with e; omega)
              replace o5 := o5.kept hgr (.inr (n5 _ (.inl rfl)))
              replace o6 := o6.kept hgr (.inr (n6 _ (.inl rfl)))
              replace hBel := hBel.grown hgr hBel.size (fun j hj => by injection hj with hj; omega)
              go_simp
              clear s0 s1 g0 g1 hgr
              generalize ((v4.setCell ⟨b5, 0, none⟩ (.int .i64 N0)).setCell ⟨b5, 1, none⟩ (.slice A5 n0 c5)) = e6 at *
              refine hK.out _ _ (HK.out _ hBel) (fun hHeld => ?_)
              clear hK KK
              simp only [List.setIfInBounds_toArray, List.set_cons_zero, List.set_cons_succ]
              refine wpAnyH_ready (rs := [7]) (by kernel_rfl) (by simp) ?_
              refine AllReadyH.cons (o := { dst := none, op := _, type := _, pos := _, after := _, guard := _ }) rfl (fun KK hK => ?_) ?_
              · have s0 := hb6.cell.1
                have s1 := hb6.cell.2
                have g0 := hb6.free 0
                have g1 := hb6.free 1
                have hgr := grown_two e6 b6 (.int .i64 N1) (.slice A6 n1 c6)
                replace hb6 := set2 hb6 N1 A6 n1 c6
                replace hb5 := hb5.grown hgr (fun e => by injection e with e; omega)
                replace o5 := o5.kept hgr (.inr (n5 _ (.inr rfl)))
                replace o6 := o6.kept hgr (.inr (n6 _ (.inr rfl)))
                replace hBel := hBel.grown hgr hBel.size (fun j hj => by injection hj with hj; omega)
                go_simp
                clear s0 s1 g0 g1 hgr
                generalize ((e6.setCell ⟨b6, 0, none⟩ (.int .i64 N1)).setCell ⟨b6, 1, none⟩ (.slice A6 n1 c6)) = e7 at *
                refine hK.out _ _ (HK.out _ hBel) (fun hHeld => ?_)
                clear hK KK
                simp only [List.setIfInBounds_toArray, List.set_cons_zero, List.set_cons_succ]
                refine wpAnyH_done (by kernel_rfl) ?_ _
                exact ⟨rfl, A5, A6, c5, c6, b5, b6, rfl, hb5, hb6, o5.row, o6.row, hBel⟩
              exact AllReadyH.nil
            exact AllReadyH.nil
          exact AllReadyH.nil
        exact AllReadyH.nil
      refine AllReadyH.cons (o := { dst := some 5, op := _, type := _, pos := _, after := _, guard := _ }) rfl (fun KK hK => ?_) ?_
      · obtain ⟨b5, hbb5⟩ : ∃ b, b = v1.heap.size := ⟨_, rfl⟩
        have hs : Below v1.heap.size v1 (v1.alloc (.cells #[.int .i64 0, .slice none 0 0] 26)) := (Below.refl _ _).alloc (Nat.le_refl _) _
        have hb5 := RBox.new v1 0 none 0 0
        rw [← hbb5] at hb5
        go_simp
        have b5_ : w1.heap.size ≤ b5 := by have := hBel.size; omega
        have m55 : blk A5 ≠ some b5 := fun e => by have := (o5.lt e).2; omega
        rw [← hbb5]
        generalize v1.alloc (.cells #[.int .i64 0, .slice none 0 0] 26) = v2 at *
        clear hbb5
        replace o5 := o5.kept ⟨hs.os, hs.tape, hs.output, hs.size, fun q hq _ => hs.block q hq⟩ (.inr (show blk A5 ≠ some v1.heap.size from fun e => by have := (o5.lt e).2; omega))
        replace hBel := hBel.trans (hs.mono hBel.size)
        clear hs
        refine hK.out _ _ (HK.out _ hBel) (fun hHeld => ?_)
        clear hK KK
        simp only [List.setIfInBounds_toArray, List.set_cons_zero, List.set_cons_succ]
        refine wpAnyH_ready (rs := [3, 5]) (by kernel_rfl) (by simp) ?_
        refine AllReadyH.cons (o := { dst := some 24, op := _, type := _, pos := _, after := _, guard := _ }) rfl (fun KK hK => ?_) ?_
        · go_simp
          refine (C2.out _ ((r1.below hBel).wide hBel.size)).mono ?_
          rintro e v3 ⟨A6, c6, rfl, o6, hs⟩
          go_wp2_with fail
          have m65 : blk A6 ≠ some b5 := fun e => by have := (o6.lt e).1; have := hb5.lt; omega
          replace o5 := o5.kept ⟨hs.os, hs.tape, hs.output, hs.size, fun q hq _ => hs.block q hq⟩ (.inr (show blk A5 ≠ some v2.heap.size from fun e => by have := (o5.lt e).2; omega))
          replace hb5 := hb5.below hs hb5.lt
          replace hBel := hBel.trans (hs.mono hBel.size)
          clear hs
          refine hK.out _ _ (HK.out _ hBel) (fun hHeld => ?_)
          clear hK KK
          simp only [List.setIfInBounds_toArray, List.set_cons_zero, List.set_cons_succ]
          refine wpAnyH_ready (rs := [5]) (by kernel_rfl) (by simp) ?_
          refine AllReadyH.cons (o := { dst := some 6, op := _, type := _, pos := _, after := _, guard := _ }) rfl (fun KK hK => ?_) ?_
          · obtain ⟨b6, hbb6⟩ : ∃ b, b = v3.heap.size := ⟨_, rfl⟩
            have hs : Below v3.heap.size v3 (v3.alloc (.cells #[.int .i64 0, .slice none 0 0] 26)) := (Below.refl _ _).alloc (Nat.le_refl _) _
            have hb6 := RBox.new v3 0 none 0 0
            rw [← hbb6] at hb6
            go_simp
            have b6_ : w1.heap.size ≤ b6 := by have := hBel.size; omega
            have m56 : blk A5 ≠ some b6 := fun e => by have := (o5.lt e).2; omega
            have m66 : blk A6 ≠ some b6 := fun e => by have := (o6.lt e).2; omega
            have hne : b5 ≠ b6 := by have := hb5.lt; omega
            rw [← hbb6]
            generalize v3.alloc (.cells #[.int .i64 0, .slice none 0 0] 26) = v4 at *
            clear hbb6
            replace o5 := o5.kept ⟨hs.os, hs.tape, hs.output, hs.size, fun q hq _ => hs.block q hq⟩ (.inr (show blk A5 ≠ some v3.heap.size from fun e => by have := (o5.lt e).2; omega))
            replace o6 := o6.kept ⟨hs.os, hs.tape, hs.output, hs.size, fun q hq _ => hs.block q hq⟩ (.inr (show blk A6 ≠ some v3.heap.size from fun e => by have := (o6.lt e).2; omega))
            replace hb5 := hb5.below hs hb5.lt
            replace hBel := hBel.trans (hs.mono hBel.size)
            clear hs
            refine hK.out _ _ (HK.out _ hBel) (fun hHeld => ?_)
            clear hK KK
            simp only [List.setIfInBounds_toArray, List.set_cons_zero, List.set_cons_succ]
            have n5 : ∀ q, (q = b5 ∨ q = b6) → blk A5 ≠ some q := fun q hq => by rcases hq with h | h <;> rw [h]; exact m55; exact m56
            have n6 : ∀ q, (q = b5 ∨ q = b6) → blk A6 ≠ some q := fun q hq => by rcases hq with h | h <;> rw [h]; exact m65; exact m66
            refine wpAnyH_ready (rs := [6]) (by kernel_rfl) (by simp) ?_
            refine AllReadyH.cons (o := { dst := none, op := _, type := _, pos := _, after := _, guard := _ }) rfl (fun KK hK => ?_) ?_
            · have s0 := hb5.cell.1
              have s1 := hb5.cell.2
              have g0 := hb5.free 0
              have g1 := hb5.free 1
              have hgr := grown_two v4 b5 (.int .i64 N0) (.slice A5 n0 c5)
              replace hb5 := set2 hb5 N0 A5 n0 c5
              replace hb6 := hb6.grown hgr (fun e => by injection e with e; omega)
              replace o5 := o5.kept hgr (.inr (n5 _ (.inl rfl)))
              replace o6 := o6.kept hgr (.inr (n6 _ (.inl rfl)))
              replace hBel := hBel.grown hgr hBel.size (fun j hj => by injection hj with hj; omega)
              go_simp
              clear s0 s1 g0 g1 hgr
              generalize ((v4.setCell ⟨b5, 0, none⟩ (.int .i64 N0)).setCell ⟨b5, 1, none⟩ (.slice A5 n0 c5)) = e6 at *
              refine hK.out _ _ (HK.out _ hBel) (fun hHeld => ?_)
              clear hK KK
              simp only [List.setIfInBounds_toArray, List.set_cons_zero, List.set_cons_succ]
              refine wpAnyH_ready (rs := [7]) (by kernel_rfl) (by simp) ?_
              refine AllReadyH.cons (o := { dst := none, op := _, type := _, pos := _, after := _, guard := _ }) rfl (fun KK hK => ?_) ?_
              · have s0 := hb6.cell.1
                have s1 := hb6.cell.2
                have g0 := hb6.free 0
                have g1 := hb6.free 1
                have hgr := grown_two e6 b6 (.int .i64 N1) (.slice A6 n1 c6)
                replace hb6 := set2 hb6 N1 A6 n1 c6
                replace hb5 := hb5.grown hgr (fun e => by injection e with e; omega)
                replace o5 := o5.kept hgr (.inr (n5 _ (.inr rfl)))
                replace o6 := o6.kept hgr (.inr (n6 _ (.inr rfl)))
                replace hBel := hBel.grown hgr hBel.size (fun j hj => by injection hj with hj; omega)
                go_simp
                clear s0 s1 g0 g1 hgr
                generalize ((e6.setCell ⟨b6, 0, none⟩ (.int .i64 N1)).setCell ⟨b6, 1, none⟩ (.slice A6 n1 c6)) = e7 at *
                refine hK.out _ _ (HK.out _ hBel) (fun hHeld => ?_)
                clear hK KK
                simp only [List.setIfInBounds_toArray, List.set_cons_zero, List.set_cons_succ]
                refine wpAnyH_done (by kernel_rfl) ?_ _
                exact ⟨rfl, A5, A6, c5, c6, b5, b6, rfl, hb5, hb6, o5.row, o6.row, hBel⟩
              exact AllReadyH.nil
            exact AllReadyH.nil
          exact AllReadyH.nil
        refine AllReadyH.cons (o := { dst := some 6, op := _, type := _, pos := _, after := _, guard := _ }) rfl (fun KK hK => ?_) ?_
        · obtain ⟨b6, hbb6⟩ : ∃ b, b = v2.heap.size := ⟨_, rfl⟩
          have hs : Below v2.heap.size v2 (v2.alloc (.cells #[.int .i64 0, .slice none 0 0] 26)) := (Below.refl _ _).alloc (Nat.le_refl _) _
          have hb6 := RBox.new v2 0 none 0 0
          rw [← hbb6] at hb6
          go_simp
          have b6_ : w1.heap.size ≤ b6 := by have := hBel.size; omega
          have m56 : blk A5 ≠ some b6 := fun e => by have := (o5.lt e).2; omega
          have hne : b5 ≠ b6 := by have := hb5.lt; omega
          rw [← hbb6]
          generalize v2.alloc (.cells #[.int .i64 0, .slice none 0 0] 26) = v3 at *
          clear hbb6
          replace o5 := o5.kept ⟨hs.os, hs.tape, hs.output, hs.size, fun q hq _ => hs.block q hq⟩ (.inr (show blk A5 ≠ some v2.heap.size from fun e => by have := (o5.lt e).2; omega))
          replace hb5 := hb5.below hs hb5.lt
          replace hBel := hBel.trans (hs.mono hBel.size)
          clear hs
          refine hK.out _ _ (HK.out _ hBel) (fun hHeld => ?_)
          clear hK KK
          simp only [List.setIfInBounds_toArray, List.set_cons_zero, List.set_cons_succ]
          refine wpAnyH_ready (rs := [3]) (by kernel_rfl) (by simp) ?_
          refine AllReadyH.cons (o := { dst := some 24, op := _, type := _, pos := _, after := _, guard := _ }) rfl (fun KK hK => ?_) ?_
          · go_simp
            refine (C2.out _ ((r1.below hBel).wide hBel.size)).mono ?_
            rintro e v4 ⟨A6, c6, rfl, o6, hs⟩
            go_wp2_with fail
            have m65 : blk A6 ≠ some b5 := fun e => by have := (o6.lt e).1; have := hb5.lt; omega
            have m66 : blk A6 ≠ some b6 := fun e => by have := (o6.lt e).1; have := hb6.lt; omega
            replace o5 := o5.kept ⟨hs.os, hs.tape, hs.output, hs.size, fun q hq _ => hs.block q hq⟩ (.inr (show blk A5 ≠ some v3.heap.size from fun e => by have := (o5.lt e).2; omega))
            replace hb5 := hb5.below hs hb5.lt
            replace hb6 := hb6.below hs hb6.lt
            replace hBel := hBel.trans (hs.mono hBel.size)
            clear hs
            refine hK.out _ _ (HK.out _ hBel) (fun hHeld => ?_)
            clear hK KK
            simp only [List.setIfInBounds_toArray, List.set_cons_zero, List.set_cons_succ]
            have n5 : ∀ q, (q = b5 ∨ q = b6) → blk A5 ≠ some q := fun q hq => by rcases hq with h | h <;> rw [h]; exact m55; exact m56
            have n6 : ∀ q, (q = b5 ∨ q = b6) → blk A6 ≠ some q := fun q hq => by rcases hq with h | h <;> rw [h]; exact m65; exact m66
            refine wpAnyH_ready (rs := [6]) (by kernel_rfl) (by simp) ?_
            refine AllReadyH.cons (o := { dst := none, op := _, type := _, pos := _, after := _, guard := _ }) rfl (fun KK hK => ?_) ?_
            · have s0 := hb5.cell.1
              have s1 := hb5.cell.2
              have g0 := hb5.free 0
              have g1 := hb5.free 1
              have hgr := grown_two v4 b5 (.int .i64 N0) (.slice A5 n0 c5)
              replace hb5 := set2 hb5 N0 A5 n0 c5
              replace hb6 := hb6.grown hgr (fun e => by injection e with e; omega)
              replace o5 := o5.kept hgr (.inr (n5 _ (.inl rfl)))
              replace o6 := o6.kept hgr (.inr (n6 _ (.inl rfl)))
              replace hBel := hBel.grown hgr hBel.size (fun j hj => by injection hj with hj; omega)
              go_simp
              clear s0 s1 g0 g1 hgr
              generalize ((v4.setCell ⟨b5, 0, none⟩ (.int .i64 N0)).setCell ⟨b5, 1, none⟩ (.slice A5 n0 c5)) = e6 at *
              refine hK.out _ _ (HK.out _ hBel) (fun hHeld => ?_)
              clear hK KK
              simp only [List.setIfInBounds_toArray, List.set_cons_zero, List.set_cons_succ]
              refine wpAnyH_ready (rs := [7]) (by kernel_rfl) (by simp) ?_
              refine AllReadyH.cons (o := { dst := none, op := _, type := _, pos := _, after := _, guard := _ }) rfl (fun KK hK => ?_) ?_
              · have s0 := hb6.cell.1
                have s1 := hb6.cell.2
                have g0 := hb6.free 0
                have g1 := hb6.free 1
                have hgr := grown_two e6 b6 (.int .i64 N1) (.slice A6 n1 c6)
                replace hb6 := set2 hb6 N1 A6 n1 c6
                replace hb5 := hb5.grown hgr (fun e => by injection e with e; omega)
                replace o5 := o5.kept hgr (.inr (n5 _ (.inr rfl)))
                replace o6 := o6.kept hgr (.inr (n6 _ (.inr rfl)))
                replace hBel := hBel.grown hgr hBel.size (fun j hj => by injection hj with hj; omega)
                go_simp
                clear s0 s1 g0 g1 hgr
                generalize ((e6.setCell ⟨b6, 0, none⟩ (.int .i64 N1)).setCell ⟨b6, 1, none⟩ (.slice A6 n1 c6)) = e7 at *
                refine hK.out _ _ (HK.out _ hBel) (fun hHeld => ?_)
                clear hK KK
                simp only [List.setIfInBounds_toArray, List.set_cons_zero, List.set_cons_succ]
                refine wpAnyH_done (by kernel_rfl) ?_ _
                exact ⟨rfl, A5, A6, c5, c6, b5, b6, rfl, hb5, hb6, o5.row, o6.row, hBel⟩
              exact AllReadyH.nil
            exact AllReadyH.nil
          exact AllReadyH.nil
        exact AllReadyH.nil
      refine AllReadyH.cons (o := { dst := some 6, op := _, type := _, pos := _, after := _, guard := _ }) rfl (fun KK hK => ?_) ?_
      · obtain ⟨b6, hbb6⟩ : ∃ b, b = v1.heap.size := ⟨_, rfl⟩
        have hs : Below v1.heap.size v1 (v1.alloc (.cells #[.int .i64 0, .slice none 0 0] 26)) := (Below.refl _ _).alloc (Nat.le_refl _) _
        have hb6 := RBox.new v1 0 none 0 0
        rw [← hbb6] at hb6
        go_simp
        have b6_ : w1.heap.size ≤ b6 := by have := hBel.size; omega
        have m56 : blk A5 ≠ some b6 := fun e => by have := (o5.lt e).2; omega
        rw [← hbb6]
        generalize v1.alloc (.cells #[.int .i64 0, .slice none 0 0] 26) = v2 at *
        clear hbb6
        replace o5 := o5.kept ⟨hs.os, hs.tape, hs.output, hs.size, fun q hq _ => hs.block q hq⟩ (.inr (show blk A5 ≠ some v1.heap.size from fun e => by have := (o5.lt e).2; omega))
        replace hBel := hBel.trans (hs.mono hBel.size)
        clear hs
        refine hK.out _ _ (HK.out _ hBel) (fun hHeld => ?_)
        clear hK KK
        simp only [List.setIfInBounds_toArray, List.set_cons_zero, List.set_cons_succ]
        refine wpAnyH_ready (rs := [3, 4]) (by kernel_rfl) (by simp) ?_
        refine AllReadyH.cons (o := { dst := some 24, op := _, type := _, pos := _, after := _, guard := _ }) rfl (fun KK hK => ?_) ?_
        · go_simp
          refine (C2.out _ ((r1.below hBel).wide hBel.size)).mono ?_
          rintro e v3 ⟨A6, c6, rfl, o6, hs⟩
          go_wp2_with fail
          have m66 : blk A6 ≠ some b6 := fun e => by have := (o6.lt e).1; have := hb6.lt; omega
          replace o5 := o5.kept ⟨hs.os, hs.tape, hs.output, hs.size, fun q hq _ => hs.block q hq⟩ (.inr (show blk A5 ≠ some v2.heap.size from fun e => by have := (o5.lt e).2; omega))
          replace hb6 := hb6.below hs hb6.lt
          replace hBel := hBel.trans (hs.mono hBel.size)
          clear hs
          refine hK.out _ _ (HK.out _ hBel) (fun hHeld => ?_)
          clear hK KK
          simp only [List.setIfInBounds_toArray, List.set_cons_zero, List.set_cons_succ]
          refine wpAnyH_ready (rs := [4]) (by kernel_rfl) (by simp) ?_
          refine AllReadyH.cons (o := { dst := some 5, op := _, type := _, pos := _, after := _, guard := _ }) rfl (fun KK hK => ?_) ?_
          · obtain ⟨b5, hbb5⟩ : ∃ b, b = v3.heap.size := ⟨_, rfl⟩
            have hs : Below v3.heap.size v3 (v3.alloc (.cells #[.int .i64 0, .slice none 0 0] 26)) := (Below.refl _ _).alloc (Nat.le_refl _) _
            have hb5 := RBox.new v3 0 none 0 0
            rw [← hbb5] at hb5
            go_simp
            have b5_ : w1.heap.size ≤ b5 := by have := hBel.size; omega
            have m55 : blk A5 ≠ some b5 := fun e => by have := (o5.lt e).2; omega
            have m65 : blk A6 ≠ some b5 := fun e => by have := (o6.lt e).2; omega
            have hne : b5 ≠ b6 := by have := hb6.lt; omega
            rw [← hbb5]
            generalize v3.alloc (.cells #[.int .i64 0, .slice none 0 0] 26) = v4 at *
            clear hbb5
            replace o5 := o5.kept ⟨hs.os, hs.tape, hs.output, hs.size, fun q hq _ => hs.block q hq⟩ (.inr (show blk A5 ≠ some v3.heap.size from fun e => by have := (o5.lt e).2; omega))
            replace o6 := o6.kept ⟨hs.os, hs.tape, hs.output, hs.size, fun q hq _ => hs.block q hq⟩ (.inr (show blk A6 ≠ some v3.heap.size from fun e => by have := (o6.lt e).2; omega))
            replace hb6 := hb6.below hs hb6.lt
            replace hBel := hBel.trans (hs.mono hBel.size)
            clear hs
            refine hK.out _ _ (HK.out _ hBel) (fun hHeld => ?_)
            clear hK KK
            simp only [List.setIfInBounds_toArray, List.set_cons_zero, List.set_cons_succ]
            have n5 : ∀ q, (q = b5 ∨ q = b6) → blk A5 ≠ some q := fun q hq => by rcases hq with h | h <;> rw [h]; exact m55; exact m56
            have n6 : ∀ q, (q = b5 ∨ q = b6) → blk A6 ≠ some q := fun q hq => by rcases hq with h | h <;> rw [h]; exact m65; exact m66
            refine wpAnyH_ready (rs := [6]) (by kernel_rfl) (by simp) ?_
            refine AllReadyH.cons (o := { dst := none, op := _, type := _, pos := _, after := _, guard := _ }) rfl (fun KK hK => ?_) ?_
            · have s0 := hb5.cell.1
              have s1 := hb5.cell.2
              have g0 := hb5.free 0
              have g1 := hb5.free 1
              have hgr := grown_two v4 b5 (.int .i64 N0) (.slice A5 n0 c5)
              replace hb5 := set2 hb5 N0 A5 n0 c5
              replace hb6 := hb6.grown hgr (fun e => by injection e with e; omega)
              replace o5 := o5.kept hgr (.inr (n5 _ (.inl rfl)))
              replace o6 := o6.kept hgr (.inr (n6 _ (.inl rfl)))
              replace hBel := hBel.grown hgr hBel.size (fun j hj => by injection hj with hj; omega)
              go_simp
              clear s0 s1 g0 g1 hgr
              generalize ((v4.setCell ⟨b5, 0, none⟩ (.int .i64 N0)).setCell ⟨b5, 1, none⟩ (.slice A5 n0 c5)) = e6 at *
              refine hK.out _ _ (HK.out _ hBel) (fun hHeld => ?_)
              clear hK KK
              simp only [List.setIfInBounds_toArray, List.set_cons_zero, List.set_cons_succ]
              refine wpAnyH_ready (rs := [7]) (by kernel_rfl) (by simp) ?_
              refine AllReadyH.cons (o := { dst := none, op := _, type := _, pos := _, after := _, guard := _ }) rfl (fun KK hK => ?_) ?_
              · have s0 := hb6.cell.1
                have s1 := hb6.cell.2
                have g0 := hb6.free 0
                have g1 := hb6.free 1
                have hgr := grown_two e6 b6 (.int .i64 N1) (.slice A6 n1 c6)
                replace hb6 := set2 hb6 N1 A6 n1 c6
                replace hb5 := hb5.grown hgr (fun e => by injection e with e; omega)
                replace o5 := o5.kept hgr (.inr (n5 _ (.inr rfl)))
                replace o6 := o6.kept hgr (.inr (n6 _ (.inr rfl)))
                replace hBel := hBel.grown hgr hBel.size (fun j hj => by injection hj with hj; omega)
                go_simp
                clear s0 s1 g0 g1 hgr
                generalize ((e6.setCell ⟨b6, 0, none⟩ (.int .i64 N1)).setCell ⟨b6, 1, none⟩ (.slice A6 n1 c6)) = e7 at *
                refine hK.out _ _ (HK.out _ hBel) (fun hHeld => ?_)
                clear hK KK
                simp only [List.setIfInBounds_toArray, List.set_cons_zero, List.set_cons_succ]
                refine wpAnyH_done (by kernel_rfl) ?_ _
                exact ⟨rfl, A5, A6, c5, c6, b5, b6, rfl, hb5, hb6, o5.row, o6.row, hBel⟩
              exact AllReadyH.nil
            exact AllReadyH.nil
          exact AllReadyH.nil
        refine AllReadyH.cons (o := { dst := some 5, op := _, type := _, pos := _, after := _, guard := _ }) rfl (fun KK hK => ?_) ?_
        · obtain ⟨b5, hbb5⟩ : ∃ b, b = v2.heap.size := ⟨_, rfl⟩
          have hs : Below v2.heap.size v2 (v2.alloc (.cells #[.int .i64 0, .slice none 0 0] 26)) := (Below.refl _ _).alloc (Nat.le_refl _) _
          have hb5 := RBox.new v2 0 none 0 0
          rw [← hbb5] at hb5
          go_simp
          have b5_ : w1.heap.size ≤ b5 := by have := hBel.size; omega
          have m55 : blk A5 ≠ some b5 := fun e => by have := (o5.lt e).2; omega
          have hne : b5 ≠ b6 := by have := hb6.lt; omega
          rw [← hbb5]
          generalize v2.alloc (.cells #[.int .i64 0, .slice none 0 0] 26) = v3 at *
          clear hbb5
          replace o5 := o5.kept ⟨hs.os, hs.tape, hs.output, hs.size, fun q hq _ => hs.block q hq⟩ (.inr (show blk A5 ≠ some v2.heap.size from fun e => by have := (o5.lt e).2; omega))
          replace hb6 := hb6.below hs hb6.lt
          replace hBel := hBel.trans (hs.mono hBel.size)
          clear hs
          refine hK.out _ _ (HK.out _ hBel) (fun hHeld => ?_)
          clear hK KK
          simp only [List.setIfInBounds_toArray, List.set_cons_zero, List.set_cons_succ]
          refine wpAnyH_ready (rs := [3]) (by kernel_rfl) (by simp) ?_
          refine AllReadyH.cons (o := { dst := some 24, op := _, type := _, pos := _, after := _, guard := _ }) rfl (fun KK hK => ?_) ?_
          · go_simp
            refine (C2.out _ ((r1.below hBel).wide hBel.size)).mono ?_
            rintro e v4 ⟨A6, c6, rfl, o6, hs⟩
            go_wp2_with fail
            have m65 : blk A6 ≠ some b5 := fun e => by have := (o6.lt e).1; have := hb5.lt; omega
            have m66 : blk A6 ≠ some b6 := fun e => by have := (o6.lt e).1; have := hb6.lt; omega
            replace o5 := o5.kept ⟨hs.os, hs.tape, hs.output, hs.size, fun q hq _ => hs.block q hq⟩ (.inr (show blk A5 ≠ some v3.heap.size from fun e => by have := (o5.lt e).2; omega))
            replace hb5 := hb5.below hs hb5.lt
            replace hb6 := hb6.below hs hb6.lt
            replace hBel := hBel.trans (hs.mono hBel.size)
            clear hs
            refine hK.out _ _ (HK.out _ hBel) (fun hHeld => ?_)
            clear hK KK
            simp only [List.setIfInBounds_toArray, List.set_cons_zero, List.set_cons_succ]
            have n5 : ∀ q, (q = b5 ∨ q = b6) → blk A5 ≠ some q := fun q hq => by rcases hq with h | h <;> rw [h]; exact m55; exact m56
            have n6 : ∀ q, (q = b5 ∨ q = b6) → blk A6 ≠ some q := fun q hq => by rcases hq with h | h <;> rw [h]; exact m65; exact m66
            refine wpAnyH_ready (rs := [6]) (by kernel_rfl) (by simp) ?_
            refine AllReadyH.cons (o := { dst := none, op := _, type := _, pos := _, after := _, guard := _ }) rfl (fun KK hK => ?_) ?_
            · have s0 := hb5.cell.1
              have s1 := hb5.cell.2
              have g0 := hb5.free 0
              have g1 := hb5.free 1
              have hgr := grown_two v4 b5 (.int .i64 N0) (.slice A5 n0 c5)
              replace hb5 := set2 hb5 N0 A5 n0 c5
              replace hb6 := hb6.grown hgr (fun e => by injection e with e; omega)
              replace o5 := o5.kept hgr (.inr (n5 _ (.inl rfl)))
              replace o6 := o6.kept hgr (.inr (n6 _ (.inl rfl)))
              replace hBel := hBel.grown hgr hBel.size (fun j hj => by injection hj with hj; omega)
              go_simp
              clear s0 s1 g0 g1 hgr
              generalize ((v4.setCell ⟨b5, 0, none⟩ (.int .i64 N0)).setCell ⟨b5, 1, none⟩ (.slice A5 n0 c5)) = e6 at *
              refine hK.out _ _ (HK.out _ hBel) (fun hHeld => ?_)
              clear hK KK
              simp only [List.setIfInBounds_toArray, List.set_cons_zero, List.set_cons_succ]
              refine wpAnyH_ready (rs := [7]) (by kernel_rfl) (by simp) ?_
              refine AllReadyH.cons (o := { dst := none, op := _, type := _, pos := _, after := _, guard := _ }) rfl (fun KK hK => ?_) ?_
              · have s0 := hb6.cell.1
                have s1 := hb6.cell.2
                have g0 := hb6.free 0
                have g1 := hb6.free 1
                have hgr := grown_two e6 b6 (.int .i64 N1) (.slice A6 n1 c6)
                replace hb6 := set2 hb6 N1 A6 n1 c6
                replace hb5 := hb5.grown hgr (fun e => by injection e with e; omega)
                replace o5 := o5.kept hgr (.inr (n5 _ (.inr rfl)))
                replace o6 := o6.kept hgr (.inr (n6 _ (.inr rfl)))
                replace hBel := hBel.grown hgr hBel.size (fun j hj => by injection hj with hj; omega)
                go_simp
                clear s0 s1 g0 g1 hgr
                generalize ((e6.setCell ⟨b6, 0, none⟩ (.int .i64 N1)).setCell ⟨b6, 1, none⟩ (.slice A6 n1 c6)) = e7 at *
                refine hK.out _ _ (HK.out _ hBel) (fun hHeld => ?_)
                clear hK KK
                simp only [List.setIfInBounds_toArray, List.set_cons_zero, List.set_cons_succ]
                refine wpAnyH_done (by kernel_rfl) ?_ _
                exact ⟨rfl, A5, A6, c5, c6, b5, b6, rfl, hb5, hb6, o5.row, o6.row, hBel⟩
              exact AllReadyH.nil
            exact AllReadyH.nil
          exact AllReadyH.nil
        exact AllReadyH.nil
      exact AllReadyH.nil
    refine AllReadyH.cons (o := { dst := some 5, op := _, type := _, pos := _, after := _, guard := _ }) rfl (fun KK hK => ?_) ?_
    · obtain ⟨b5, hbb5⟩ : ∃ b, b = v0.heap.size := ⟨_, rfl⟩
      have hs : Below v0.heap.size v0 (v0.alloc (.cells #[.int .i64 0, .slice none 0 0] 26)) := (Below.refl _ _).alloc (Nat.le_refl _) _
      have hb5 := RBox.new v0 0 none 0 0
      rw [← hbb5] at hb5
      go_simp
      have b5_ : w1.heap.size ≤ b5 := by have := hBel.size; omega
      rw [← hbb5]
      generalize v0.alloc (.cells #[.int .i64 0, .slice none 0 0] 26) = v1 at *
      clear hbb5
      replace hBel := hBel.trans (hs.mono hBel.size)
      clear hs
      refine hK.out _ _ (HK.out _ hBel) (fun hHeld => ?_)
      clear hK KK
      simp only [List.setIfInBounds_toArray, List.set_cons_zero, List.set_cons_succ]
      refine wpAnyH_ready (rs := [1, 5]) (by kernel_rfl) (by simp) ?_
      refine AllReadyH.cons (o := { dst := some 22, op := _, type := _, pos := _, after := _, guard := _ }) rfl (fun KK hK => ?_) ?_
      · go_simp
        refine (C1.out _ ((r0.below hBel).wide hBel.size)).mono ?_
        rintro e v2 ⟨A5, c5, rfl, o5, hs⟩
        go_wp2_with fail
        have m55 : blk A5 ≠ some b5 := fun e => by have := (o5.lt e).1; have := hb5.lt; omega
        replace hb5 := hb5.below hs hb5.lt
        replace hBel := hBel.trans (hs.mono hBel.size)
        clear hs
        refine hK.out _ _ (HK.out _ hBel) (fun hHeld => ?_)
        clear hK KK
        simp only [List.setIfInBounds_toArray, List.set_cons_zero, List.set_cons_succ]
        refine wpAnyH_ready (rs := [3, 5]) (by kernel_rfl) (by simp) ?_
        refine AllReadyH.cons (o := { dst := some 24, op := _, type := _, pos := _, after := _, guard := _ }) rfl (fun KK hK => ?_) ?_
        · go_simp
          refine (C2.out _ ((r1.below hBel).wide hBel.size)).mono ?_
          rintro e v3 ⟨A6, c6, rfl, o6, hs⟩
          go_wp2_with fail
          have m65 : blk A6 ≠ some b5 := fun e => by have := (o6.lt e).1; have := hb5.lt; omega
          replace o5 := o5.kept ⟨hs.os, hs.tape, hs.output, hs.size, fun q hq _ => hs.block q hq⟩ (.inr (show blk A5 ≠ some v2.heap.size from fun e => by have := (o5.lt e).2; omega))
          replace hb5 := hb5.below hs hb5.lt
          replace hBel := hBel.trans (hs.mono hBel.size)
          clear hs
          refine hK.out _ _ (HK.out _ hBel) (fun hHeld => ?_)
          clear hK KK
          simp only [List.setIfInBounds_toArray, List.set_cons_zero, List.set_cons_succ]
          refine wpAnyH_ready (rs := [5]) (by kernel_rfl) (by simp) ?_
          refine AllReadyH.cons (o := { dst := some 6, op := _, type := _, pos := _, after := _, guard := _ }) rfl (fun KK hK => ?_) ?_
          · obtain ⟨b6, hbb6⟩ : ∃ b, b = v3.heap.size := ⟨_, rfl⟩
            have hs : Below v3.heap.size v3 (v3.alloc (.cells #[.int .i64 0, .slice none 0 0] 26)) := (Below.refl _ _).alloc (Nat.le_refl _) _
            have hb6 := RBox.new v3 0 none 0 0
            rw [← hbb6] at hb6
            go_simp
            have b6_ : w1.heap.size ≤ b6 := by have := hBel.size; omega
            have m56 : blk A5 ≠ some b6 := fun e => by have := (o5.lt e).2; omega
            have m66 : blk A6 ≠ some b6 := fun e => by have := (o6.lt e).2; omega
            have hne : b5 ≠ b6 := by have := hb5.lt; omega
            rw [← hbb6]
            generalize v3.alloc (.cells #[.int .i64 0, .slice none 0 0] 26) = v4 at *
            clear hbb6
            replace o5 := o5.kept ⟨hs.os, hs.tape, hs.output, hs.size, fun q hq _ => hs.block q hq⟩ (.inr (show blk A5 ≠ some v3.heap.size from fun e => by have := (o5.lt e).2; omega))
            replace o6 := o6.kept ⟨hs.os, hs.tape, hs.output, hs.size, fun q hq _ => hs.block q hq⟩ (.inr (show blk A6 ≠ some v3.heap.size from fun e => by have := (o6.lt e).2; omega))
            replace hb5 := hb5.below hs hb5.lt
            replace hBel := hBel.trans (hs.mono hBel.size)
            clear hs
            refine hK.out _ _ (HK.out _ hBel) (fun hHeld => ?_)
            clear hK KK
            simp only [List.setIfInBounds_toArray, List.set_cons_zero, List.set_cons_succ]
            have n5 : ∀ q, (q = b5 ∨ q = b6) → blk A5 ≠ some q := fun q hq => by rcases hq with h | h <;> rw [h]; exact m55; exact m56
            have n6 : ∀ q, (q = b5 ∨ q = b6) → blk A6 ≠ some q := fun q hq => by rcases hq with h | h <;> rw [h]; exact m65; exact m66
            refine wpAnyH_ready (rs := [6]) (by kernel_rfl) (by simp) ?_
            refine AllReadyH.cons (o := { dst := none, op := _, type := _, pos := _, after := _, guard := _ }) rfl (fun KK hK => ?_) ?_
            · have s0 := hb5.cell.1
              have s1 := hb5.cell.2
              have g0 := hb5.free 0
              have g1 := hb5.free 1
              have hgr := grown_two v4 b5 (.int .i64 N0) (.slice A5 n0 c5)
              replace hb5 := set2 hb5 N0 A5 n0 c5
              replace hb6 := hb6.grown hgr (fun e => by injection e with e; omega)
              replace o5 := o5.kept hgr (.inr (n5 _ (.inl rfl)))
              replace o6 := o6.kept hgr (.inr (n6 _ (.inl rfl)))
              replace hBel := hBel.grown hgr hBel.size (fun j hj => by injection hj with hj; omega)
              go_simp
              clear s0 s1 g0 g1 hgr
              generalize ((v4.setCell ⟨b5, 0, none⟩ (.int .i64 N0)).setCell ⟨b5, 1, none⟩ (.slice A5 n0 c5)) = e6 at *
              refine hK.out _ _ (HK.out _ hBel) (fun hHeld => ?_)
              clear hK KK
              simp only [List.setIfInBounds_toArray, List.set_cons_zero, List.set_cons_succ]
              refine wpAnyH_ready (rs := [7]) (by kernel_rfl) (by simp) ?_
              refine AllReadyH.cons (o := { dst := none, op := _, type := _, pos := _, after := _, guard := _ }) rfl (fun KK hK => ?_) ?_
              · have s0 := hb6.cell.1
                have s1 := hb6.cell.2
                have g0 := hb6.free 0
                have g1 := hb6.free 1
                have hgr := grown_two e6 b6 (.int .i64 N1) (.slice A6 n1 c6)
                replace hb6 := set2 hb6 N1 A6 n1 c6
                replace hb5 := hb5.grown hgr (fun e => by injection e with e; omega)
                replace o5 := o5.kept hgr (.inr (n5 _ (.inr rfl)))
                replace o6 := o6.kept hgr (.inr (n6 _ (.inr rfl)))
                replace hBel := hBel.grown hgr hBel.size (fun j hj => by injection hj with hj; omega)
                go_simp
                clear s0 s1 g0 g1 hgr
                generalize ((e6.setCell ⟨b6, 0, none⟩ (.int .i64 N1)).setCell ⟨b6, 1, none⟩ (.slice A6 n1 c6)) = e7 at *
                refine hK.out _ _ (HK.out _ hBel) (fun hHeld => ?_)
                clear hK KK
                simp only [List.setIfInBounds_toArray, List.set_cons_zero, List.set_cons_succ]
                refine wpAnyH_done (by kernel_rfl) ?_ _
                exact ⟨rfl, A5, A6, c5, c6, b5, b6, rfl, hb5, hb6, o5.row, o6.row, hBel⟩
              exact AllReadyH.nil
            exact AllReadyH.nil
          exact AllReadyH.nil
        refine AllReadyH.cons (o := { dst := some 6, op := _, type := _, pos := _, after := _, guard := _ }) rfl (fun KK hK => ?_) ?_
        · obtain ⟨b6, hbb6⟩ : ∃ b, b = v2.heap.size := ⟨_, rfl⟩
          have hs : Below v2.heap.size v2 (v2.alloc (.cells #[.int .i64 0, .slice none 0 0] 26)) := (Below.refl _ _).alloc (Nat.le_refl _) _
          have hb6 := RBox.new v2 0 none 0 0
          rw [← hbb6] at hb6
          go_simp
          have b6_ : w1.heap.size ≤ b6 := by have := hBel.size; omega
          have m56 : blk A5 ≠ some b6 := fun e => by have := (o5.lt e).2; omega
          have hne : b5 ≠ b6 := by have := hb5.lt; omega
          rw [← hbb6]
          generalize v2.alloc (.cells #[.int .i64 0, .slice none 0 0] 26) = v3 at *
          clear hbb6
          replace o5 := o5.kept ⟨hs.os, hs.tape, hs.output, hs.size, fun q hq _ => hs.block q hq⟩ (.inr (show blk A5 ≠ some v2.heap.size from fun e => by have := (o5.lt e).2; omega))
          replace hb5 := hb5.below hs hb5.lt
          replace hBel := hBel.trans (hs.mono hBel.size)
          clear hs
          refine hK.out _ _ (HK.out _ hBel) (fun hHeld => ?_)
          clear hK KK
          simp only [List.setIfInBounds_toArray, List.set_cons_zero, List.set_cons_succ]
          refine wpAnyH_ready (rs := [3]) (by kernel_rfl) (by simp) ?_
          refine AllReadyH.cons (o := { dst := some 24, op := _, type := _, pos := _, after := _, guard := _ }) rfl (fun KK hK => ?_) ?_
          · go_simp
            refine (C2.out _ ((r1.below hBel).wide hBel.size)).mono ?_
            rintro e v4 ⟨A6, c6, rfl, o6, hs⟩
            go_wp2_with fail
            have m65 : blk A6 ≠ some b5 := fun e => by have := (o6.lt e).1; have := hb5.lt; omega
            have m66 : blk A6 ≠ some b6 := fun e => by have := (o6.lt e).1; have := hb6.lt; omega
            replace o5 := o5.kept ⟨hs.os, hs.tape, hs.output, hs.size, fun q hq _ => hs.block q hq⟩ (.inr (show blk A5 ≠ some v3.heap.size from fun e => by have := (o5.lt e).2; omega))
            replace hb5 := hb5.below hs hb5.lt
            replace hb6 := hb6.below hs hb6.lt
            replace hBel := hBel.trans (hs.mono hBel.size)
            clear hs
            refine hK.out _ _ (HK.out _ hBel) (fun hHeld => ?_)
            clear hK KK
            simp only [List.setIfInBounds_toArray, List.set_cons_zero, List.set_cons_succ]
            have n5 : ∀ q, (q = b5 ∨ q = b6) → blk A5 ≠ some q := fun q hq => by rcases hq with h | h <;> rw [h]; exact m55; exact m56
            have n6 : ∀ q, (q = b5 ∨ q = b6) → blk A6 ≠ some q := fun q hq => by rcases hq with h | h <;> rw [h]; exact m65; exact m66
            refine wpAnyH_ready (rs := [6]) (by kernel_rfl) (by simp) ?_
            refine AllReadyH.cons (o := { dst := none, op := _, type := _, pos := _, after := _, guard := _ }) rfl (fun KK hK => ?_) ?_
            · have s0 := hb5.cell.1
              have s1 := hb5.cell.2
              have g0 := hb5.free 0
              have g1 := hb5.free 1
              have hgr := grown_two v4 b5 (.int .i64 N0) (.slice A5 n0 c5)
              replace hb5 := set2 hb5 N0 A5 n0 c5
              replace hb6 := hb6.grown hgr (fun e => by injection e with e; omega)
              replace o5 := o5.kept hgr (.inr (n5 _ (.inl rfl)))
              replace o6 := o6.kept hgr (.inr (n6 _ (.inl rfl)))
              replace hBel := hBel.grown hgr hBel.size (fun j hj => by injection hj with hj; omega)
              go_simp
              clear s0 s1 g0 g1 hgr
              generalize ((v4.setCell ⟨b5, 0, none⟩ (.int .i64 N0)).setCell ⟨b5, 1, none⟩ (.slice A5 n0 c5)) = e6 at *
              refine hK.out _ _ (HK.out _ hBel) (fun hHeld => ?_)
              clear hK KK
              simp only [List.setIfInBounds_toArray, List.set_cons_zero, List.set_cons_succ]
              refine wpAnyH_ready (rs := [7]) (by kernel_rfl) (by simp) ?_
              refine AllReadyH.cons (o := { dst := none, op := _, type := _, pos := _, after := _, guard := _ }) rfl (fun KK hK => ?_) ?_
              · have s0 := hb6.cell.1
                have s1 := hb6.cell.2
                have g0 := hb6.free 0
                have g1 := hb6.free 1
                have hgr := grown_two e6 b6 (.int .i64 N1) (.slice A6 n1 c6)
                replace hb6 := set2 hb6 N1 A6 n1 c6
                replace hb5 := hb5.grown hgr (fun e => by injection e with e; omega)
                replace o5 := o5.kept hgr (.inr (n5 _ (.inr rfl)))
                replace o6 := o6.kept hgr (.inr (n6 _ (.inr rfl)))
                replace hBel := hBel.grown hgr hBel.size (fun j hj => by injection hj with hj; omega)
                go_simp
                clear s0 s1 g0 g1 hgr
                generalize ((e6.setCell ⟨b6, 0, none⟩ (.int .i64 N1)).setCell ⟨b6, 1, none⟩ (.slice A6 n1 c6)) = e7 at *
                refine hK.out _ _ (HK.out _ hBel) (fun hHeld => ?_)
                clear hK KK
                simp only [List.setIfInBounds_toArray, List.set_cons_zero, List.set_cons_succ]
                refine wpAnyH_done (by kernel_rfl) ?_ _
                exact ⟨rfl, A5, A6, c5, c6, b5, b6, rfl, hb5, hb6, o5.row, o6.row, hBel⟩
              exact AllReadyH.nil
            exact AllReadyH.nil
          exact AllReadyH.nil
        exact AllReadyH.nil
      refine AllReadyH.cons (o := { dst := some 6, op := _, type := _, pos := _, after := _, guard := _ }) rfl (fun KK hK => ?_) ?_
      · obtain ⟨b6, hbb6⟩ : ∃ b, b = v1.heap.size := ⟨_, rfl⟩
        have hs : Below v1.heap.size v1 (v1.alloc (.cells #[.int .i64 0, .slice none 0 0] 26)) := (Below.refl _ _).alloc (Nat.le_refl _) _
        have hb6 := RBox.new v1 0 none 0 0
        rw [← hbb6] at hb6
        go_simp
        have b6_ : w1.heap.size ≤ b6 := by have := hBel.size; omega
        have hne : b5 ≠ b6 := by have := hb5.lt; omega
        rw [← hbb6]
        generalize v1.alloc (.cells #[.int .i64 0, .slice none 0 0] 26) = v2 at *
        clear hbb6
        replace hb5 := hb5.below hs hb5.lt
        replace hBel := hBel.trans (hs.mono hBel.size)
        clear hs
        refine hK.out _ _ (HK.out _ hBel) (fun hHeld => ?_)
        clear hK KK
        simp only [List.setIfInBounds_toArray, List.set_cons_zero, List.set_cons_succ]
        refine wpAnyH_ready (rs := [1]) (by kernel_rfl) (by simp) ?_
        refine AllReadyH.cons (o := { dst := some 22, op := _, type := _, pos := _, after := _, guard := _ }) rfl (fun KK hK => ?_) ?_
        · go_simp
          refine (C1.out _ ((r0.below hBel).wide hBel.size)).mono ?_
          rintro e v3 ⟨A5, c5, rfl, o5, hs⟩
          go_wp2_with fail
          have m55 : blk A5 ≠ some b5 := fun e => by have := (o5.lt e).1; have := hb5.lt; omega
          have m56 : blk A5 ≠ some b6 := fun e => by have := (o5.lt e).1; have := hb6.lt; omega
          replace hb5 := hb5.below hs hb5.lt
          replace hb6 := hb6.below hs hb6.lt
          replace hBel := hBel.trans (hs.mono hBel.size)
          clear hs
          refine hK.out _ _ (HK.out _ hBel) (fun hHeld => ?_)
          clear hK KK
          simp only [List.setIfInBounds_toArray, List.set_cons_zero, List.set_cons_succ]
          refine wpAnyH_ready (rs := [3]) (by kernel_rfl) (by simp) ?_
          refine AllReadyH.cons (o := { dst := some 24, op := _, type := _, pos := _, after := _, guard := _ }) rfl (fun KK hK => ?_) ?_
          · go_simp
            refine (C2.out _ ((r1.below hBel).wide hBel.size)).mono ?_
            rintro e v4 ⟨A6, c6, rfl, o6, hs⟩
            go_wp2_with fail
            have m65 : blk A6 ≠ some b5 := fun e => by have := (o6.lt e).1; have := hb5.lt; omega
            have m66 : blk A6 ≠ some b6 := fun e => by have := (o6.lt e).1; have := hb6.lt; omega
            replace o5 := o5.kept ⟨hs.os, hs.tape, hs.output, hs.size, fun q hq _ => hs.block q hq⟩ (.inr (show blk A5 ≠ some v3.heap.size from fun e => by have := (o5.lt e).2; omega))
            replace hb5 := hb5.below hs hb5.lt
            replace hb6 := hb6.below hs hb6.lt
            replace hBel := hBel.trans (hs.mono hBel.size)
            clear hs
            refine hK.out _ _ (HK.out _ hBel) (fun hHeld => ?_)
            clear hK KK
            simp only [List.setIfInBounds_toArray, List.set_cons_zero, List.set_cons_succ]
            have n5 : ∀ q, (q = b5 ∨ q = b6) → blk A5 ≠ some q := fun q hq => by rcases hq with h | h <;> rw [h]; exact m55; exact m56
            have n6 : ∀ q, (q = b5 ∨ q = b6) → blk A6 ≠ some q := fun q hq => by rcases hq with h | h <;> rw [h]; exact m65; exact m66
            refine wpAnyH_ready (rs := [6]) (by kernel_rfl) (by simp) ?_
            refine AllReadyH.cons (o := { dst := none, op := _, type := _, pos := _, after := _, guard := _ }) rfl (fun KK hK => ?_) ?_
            · have s0 := hb5.cell.1
              have s1 := hb5.cell.2
              have g0 := hb5.free 0
              have g1 := hb5.free 1
              have hgr := grown_two v4 b5 (.int .i64 N0) (.slice A5 n0 c5)
              replace hb5 := set2 hb5 N0 A5 n0 c5
              replace hb6 := hb6.grown hgr (fun e => by injection e with e; omega)
              replace o5 := o5.kept hgr (.inr (n5 _ (.inl rfl)))
              replace o6 := o6.kept hgr (.inr (n6 _ (.inl rfl)))
              replace hBel := hBel.grown hgr hBel.size (fun j hj => by injection hj with hj; omega)
              go_simp
              clear s0 s1 g0 g1 hgr
              generalize ((v4.setCell ⟨b5, 0, none⟩ (.int .i64 N0)).setCell ⟨b5, 1, none⟩ (.slice A5 n0 c5)) = e6 at *
              refine hK.out _ _ (HK.out _ hBel) (fun hHeld => ?_)
              clear hK KK
              simp only [List.setIfInBounds_toArray, List.set_cons_zero, List.set_cons_succ]
              refine wpAnyH_ready (rs := [7]) (by kernel_rfl) (by simp) ?_
              refine AllReadyH.cons (o := { dst := none, op := _, type := _, pos := _, after := _, guard := _ }) rfl (fun KK hK => ?_) ?_
              · have s0 := hb6.cell.1
                have s1 := hb6.cell.2
                have g0 := hb6.free 0
                have g1 := hb6.free 1
                have hgr := grown_two e6 b6 (.int .i64 N1) (.slice A6 n1 c6)
                replace hb6 := set2 hb6 N1 A6 n1 c6
                replace hb5 := hb5.grown hgr (fun e => by injection e with e; omega)
                replace o5 := o5.kept hgr (.inr (n5 _ (.inr rfl)))
                replace o6 := o6.kept hgr (.inr (n6 _ (.inr rfl)))
                replace hBel := hBel.grown hgr hBel.size (fun j hj => by injection hj with hj; omega)
                go_simp
                clear s0 s1 g0 g1 hgr
                generalize ((e6.setCell ⟨b6, 0, none⟩ (.int .i64 N1)).setCell ⟨b6, 1, none⟩ (.slice A6 n1 c6)) = e7 at *
                refine hK.out _ _ (HK.out _ hBel) (fun hHeld => ?_)
                clear hK KK
                simp only [List.setIfInBounds_toArray, List.set_cons_zero, List.set_cons_succ]
                refine wpAnyH_done (by kernel_rfl) ?_ _
                exact ⟨rfl, A5, A6, c5, c6, b5, b6, rfl, hb5, hb6, o5.row, o6.row, hBel⟩
              exact AllReadyH.nil
            exact AllReadyH.nil
          exact AllReadyH.nil
        exact AllReadyH.nil
      exact AllReadyH.nil
    refine AllReadyH.cons (o := { dst := some 6, op := _, type := _, pos := _, after := _, guard := _ }) rfl (fun KK hK => ?_) ?_
    · obtain ⟨b6, hbb6⟩ : ∃ b, b = v0.heap.size := ⟨_, rfl⟩
      have hs : Below v0.heap.size v0 (v0.alloc (.cells #[.int .i64 0, .slice none 0 0] 26)) := (Below.refl _ _).alloc (Nat.le_refl _) _
      have hb6 := RBox.new v0 0 none 0 0
      rw [← hbb6] at hb6
      go_simp
      have b6_ : w1.heap.size ≤ b6 := by have := hBel.size; omega
      rw [← hbb6]
      generalize v0.alloc (.cells #[.int .i64 0, .slice none 0 0] 26) = v1 at *
      clear hbb6
      replace hBel := hBel.trans (hs.mono hBel.size)
      clear hs
      refine hK.out _ _ (HK.out _ hBel) (fun hHeld => ?_)
      clear hK KK
      simp only [List.setIfInBounds_toArray, List.set_cons_zero, List.set_cons_succ]
      refine wpAnyH_ready (rs := [1, 4]) (by kernel_rfl) (by simp) ?_
      refine AllReadyH.cons (o := { dst := some 22, op := _, type := _, pos := _, after := _, guard := _ }) rfl (fun KK hK => ?_) ?_
      · go_simp
        refine (C1.out _ ((r0.below hBel).wide hBel.size)).mono ?_
        rintro e v2 ⟨A5, c5, rfl, o5, hs⟩
        go_wp2_with fail
        have m56 : blk A5 ≠ some b6 := fun e => by have := (o5.lt e).1; have := hb6.lt; omega
        replace hb6 := hb6.below hs hb6.lt
        replace hBel := hBel.trans (hs.mono hBel.size)
        clear hs
        refine hK.out _ _ (HK.out _ hBel) (fun hHeld => ?_)
        clear hK KK
        simp only [List.setIfInBounds_toArray, List.set_cons_zero, List.set_cons_succ]
        refine wpAnyH_ready (rs := [3, 4]) (by kernel_rfl) (by simp) ?_
        refine AllReadyH.cons (o := { dst := some 24, op := _, type := _, pos := _, after := _, guard := _ }) rfl (fun KK hK => ?_) ?_
        · go_simp
          refine (C2.out _ ((r1.below hBel).wide hBel.size)).mono ?_
          rintro e v3 ⟨A6, c6, rfl, o6, hs⟩
          go_wp2_with fail
          have m66 : blk A6 ≠ some b6 := fun e => by have := (o6.lt e).1; have := hb6.lt; omega
          replace o5 := o5.kept ⟨hs.os, hs.tape, hs.output, hs.size, fun q hq _ => hs.block q hq⟩ (.inr (show blk A5 ≠ some v2.heap.size from fun e => by have := (o5.lt e).2; omega))
          replace hb6 := hb6.below hs hb6.lt
          replace hBel := hBel.trans (hs.mono hBel.size)
          clear hs
          refine hK.out _ _ (HK.out _ hBel) (fun hHeld => ?_)
          clear hK KK
          simp only [List.setIfInBounds_toArray, List.set_cons_zero, List.set_cons_succ]
          refine wpAnyH_ready (rs := [4]) (by kernel_rfl) (by simp) ?_
          refine AllReadyH.cons (o := { dst := some 5, op := _, type := _, pos := _, after := _, guard := _ }) rfl (fun KK hK => ?_) ?_
          · obtain ⟨b5, hbb5⟩ : ∃ b, b = v3.heap.size := ⟨_, rfl⟩
            have hs : Below v3.heap.size v3 (v3.alloc (.cells #[.int .i64 0, .slice none 0 0] 26)) := (Below.refl _ _).alloc (Nat.le_refl _) _
            have hb5 := RBox.new v3 0 none 0 0
            rw [← hbb5] at hb5
            go_simp
            have b5_ : w1.heap.size ≤ b5 := by have := hBel.size; omega
            have m55 : blk A5 ≠ some b5 := fun e => by have := (o5.lt e).2; omega
            have m65 : blk A6 ≠ some b5 := fun e => by have := (o6.lt e).2; omega
            have hne : b5 ≠ b6 := by have := hb6.lt; omega
            rw [← hbb5]
            generalize v3.alloc (.cells #[.int .i64 0, .slice none 0 0] 26) = v4 at *
            clear hbb5
            replace o5 := o5.kept ⟨hs.os, hs.tape, hs.output, hs.size, fun q hq _ => hs.block q hq⟩ (.inr (show blk A5 ≠ some v3.heap.size from fun e => by have := (o5.lt e).2; omega))
            replace o6 := o6.kept ⟨hs.os, hs.tape, hs.output, hs.size, fun q hq _ => hs.block q hq⟩ (.inr (show blk A6 ≠ some v3.heap.size from fun e => by have := (o6.lt e).2; omega))
            replace hb6 := hb6.below hs hb6.lt
            replace hBel := hBel.trans (hs.mono hBel.size)
            clear hs
            refine hK.out _ _ (HK.out _ hBel) (fun hHeld => ?_)
            clear hK KK
            simp only [List.setIfInBounds_toArray, List.set_cons_zero, List.set_cons_succ]
            have n5 : ∀ q, (q = b5 ∨ q = b6) → blk A5 ≠ some q := fun q hq => by rcases hq with h | h <;> rw [h]; exact m55; exact m56
            have n6 : ∀ q, (q = b5 ∨ q = b6) → blk A6 ≠ some q := fun q hq => by rcases hq with h | h <;> rw [h]; exact m65; exact m66
            refine wpAnyH_ready (rs := [6]) (by kernel_rfl) (by simp) ?_
            refine AllReadyH.cons (o := { dst := none, op := _, type := _, pos := _, after := _, guard := _ }) rfl (fun KK hK => ?_) ?_
            · have s0 := hb5.cell.1
              have s1 := hb5.cell.2
              have g0 := hb5.free 0
              have g1 := hb5.free 1
              have hgr := grown_two v4 b5 (.int .i64 N0) (.slice A5 n0 c5)
              replace hb5 := set2 hb5 N0 A5 n0 c5
              replace hb6 := hb6.grown hgr (fun e => by injection e with e; omega)
              replace o5 := o5.kept hgr (.inr (n5 _ (.inl rfl)))
              replace o6 := o6.kept hgr (.inr (n6 _ (.inl rfl)))
              replace hBel := hBel.grown hgr hBel.size (fun j hj => by injection hj with hj; omega)
              go_simp
              clear s0 s1 g0 g1 hgr
              generalize ((v4.setCell ⟨b5, 0, none⟩ (.int .i64 N0)).setCell ⟨b5, 1, none⟩ (.slice A5 n0 c5)) = e6 at *
              refine hK.out _ _ (HK.out _ hBel) (fun hHeld => ?_)
              clear hK KK
              simp only [List.setIfInBounds_toArray, List.set_cons_zero, List.set_cons_succ]
              refine wpAnyH_ready (rs := [7]) (by kernel_rfl) (by simp) ?_
              refine AllReadyH.cons (o := { dst := none, op := _, type := _, pos := _, after := _, guard := _ }) rfl (fun KK hK => ?_) ?_
              · have s0 := hb6.cell.1
                have s1 := hb6.cell.2
                have g0 := hb6.free 0
                have g1 := hb6.free 1
                have hgr := grown_two e6 b6 (.int .i64 N1) (.slice A6 n1 c6)
                replace hb6 := set2 hb6 N1 A6 n1 c6
                replace hb5 := hb5.grown hgr (fun e => by injection e with e; omega)
                replace o5 := o5.kept hgr (.inr (n5 _ (.inr rfl)))
                replace o6 := o6.kept hgr (.inr (n6 _ (.inr rfl)))
                replace hBel := hBel.grown hgr hBel.size (fun j hj => by injection hj with hj; omega)
                go_simp
                clear s0 s1 g0 g1 hgr
                generalize ((e6.setCell ⟨b6, 0, none⟩ (.int .i64 N1)).setCell ⟨b6, 1, none⟩ (.slice A6 n1 c6)) = e7 at *
                refine hK.out _ _ (HK.out _ hBel) (fun hHeld => ?_)
                clear hK KK
                simp only [List.setIfInBounds_toArray, List.set_cons_zero, List.set_cons_succ]
                refine wpAnyH_done (by kernel_rfl) ?_ _
                exact ⟨rfl, A5, A6, c5, c6, b5, b6, rfl, hb5, hb6, o5.row, o6.row, hBel⟩
              exact AllReadyH.nil
            exact AllReadyH.nil
          exact AllReadyH.nil
        refine AllReadyH.cons (o := { dst := some 5, op := _, type := _, pos := _, after := _, guard := _ }) rfl (fun KK hK => ?_) ?_
        · obtain ⟨b5, hbb5⟩ : ∃ b, b = v2.heap.size := ⟨_, rfl⟩
          have hs : Below v2.heap.size v2 (v2.alloc (.cells #[.int .i64 0, .slice none 0 0] 26)) := (Below.refl _ _).alloc (Nat.le_refl _) _
          have hb5 := RBox.new v2 0 none 0 0
          rw [← hbb5] at hb5
          go_simp
          have b5_ : w1.heap.size ≤ b5 := by have := hBel.size; omega
          have m55 : blk A5 ≠ some b5 := fun e => by have := (o5.lt e).2; omega
          have hne : b5 ≠ b6 := by have := hb6.lt; omega
          rw [← hbb5]
          generalize v2.alloc (.cells #[.int .i64 0, .slice none 0 0] 26) = v3 at *
          clear hbb5
          replace o5 := o5.kept ⟨hs.os, hs.tape, hs.output, hs.size, fun q hq _ => hs.block q hq⟩ (.inr (show blk A5 ≠ some v2.heap.size from fun e => by have := (o5.lt e).2; omega))
          replace hb6 := hb6.below hs hb6.lt
          replace hBel := hBel.trans (hs.mono hBel.size)
          clear hs
          refine hK.out _ _ (HK.out _ hBel) (fun hHeld => ?_)
          clear hK KK
          simp only [List.setIfInBounds_toArray, List.set_cons_zero, List.set_cons_succ]
          refine wpAnyH_ready (rs := [3]) (by kernel_rfl) (by simp) ?_
          refine AllReadyH.cons (o := { dst := some 24, op := _, type := _, pos := _, after := _, guard := _ }) rfl (fun KK hK => ?_) ?_
          · go_simp
            refine (C2.out _ ((r1.below hBel).wide hBel.size)).mono ?_
            rintro e v4 ⟨A6, c6, rfl, o6, hs⟩
            go_wp2_with fail
            have m65 : blk A6 ≠ some b5 := fun e => by have := (o6.lt e).1; have := hb5.lt; omega
            have m66 : blk A6 ≠ some b6 := fun e => by have := (o6.lt e).1; have := hb6.lt; omega
            replace o5 := o5.kept ⟨hs.os, hs.tape, hs.output, hs.size, fun q hq _ => hs.block q hq⟩ (.inr (show blk A5 ≠ some v3.heap.size from fun e => by have := (o5.lt e).2; omega))
            replace hb5 := hb5.below hs hb5.lt
            replace hb6 := hb6.below hs hb6.lt
            replace hBel := hBel.trans (hs.mono hBel.size)
            clear hs
            refine hK.out _ _ (HK.out _ hBel) (fun hHeld => ?_)
            clear hK KK
            simp only [List.setIfInBounds_toArray, List.set_cons_zero, List.set_cons_succ]
            have n5 : ∀ q, (q = b5 ∨ q = b6) → blk A5 ≠ some q := fun q hq => by rcases hq with h | h <;> rw [h]; exact m55; exact m56
            have n6 : ∀ q, (q = b5 ∨ q = b6) → blk A6 ≠ some q := fun q hq => by rcases hq with h | h <;> rw [h]; exact m65; exact m66
            refine wpAnyH_ready (rs := [6]) (by kernel_rfl) (by simp) ?_
            refine AllReadyH.cons (o := { dst := none, op := _, type := _, pos := _, after := _, guard := _ }) rfl (fun KK hK => ?_) ?_
            · have s0 := hb5.cell.1
              have s1 := hb5.cell.2
              have g0 := hb5.free 0
              have g1 := hb5.free 1
              have hgr := grown_two v4 b5 (.int .i64 N0) (.slice A5 n0 c5)
              replace hb5 := set2 hb5 N0 A5 n0 c5
              replace hb6 := hb6.grown hgr (fun e => by injection e with e; omega)
              replace o5 := o5.kept hgr (.inr (n5 _ (.inl rfl)))
              replace o6 := o6.kept hgr (.inr (n6 _ (.inl rfl)))
              replace hBel := hBel.grown hgr hBel.size (fun j hj => by injection hj with hj; omega)
              go_simp
              clear s0 s1 g0 g1 hgr
              generalize ((v4.setCell ⟨b5, 0, none⟩ (.int .i64 N0)).setCell ⟨b5, 1, none⟩ (.slice A5 n0 c5)) = e6 at *
              refine hK.out _ _ (HK.out _ hBel) (fun hHeld => ?_)
              clear hK KK
              simp only [List.setIfInBounds_toArray, List.set_cons_zero, List.set_cons_succ]
              refine wpAnyH_ready (rs := [7]) (by kernel_rfl) (by simp) ?_
              refine AllReadyH.cons (o := { dst := none, op := _, type := _, pos := _, after := _, guard := _ }) rfl (fun KK hK => ?_) ?_
              · have s0 := hb6.cell.1
                have s1 := hb6.cell.2
                have g0 := hb6.free 0
                have g1 := hb6.free 1
                have hgr := grown_two e6 b6 (.int .i64 N1) (.slice A6 n1 c6)
                replace hb6 := set2 hb6 N1 A6 n1 c6
                replace hb5 := hb5.grown hgr (fun e => by injection e with e; omega)
                replace o5 := o5.kept hgr (.inr (n5 _ (.inr rfl)))
                replace o6 := o6.kept hgr (.inr (n6 _ (.inr rfl)))
                replace hBel := hBel.grown hgr hBel.size (fun j hj => by injection hj with hj; omega)
                go_simp
                clear s0 s1 g0 g1 hgr
                generalize ((e6.setCell ⟨b6, 0, none⟩ (.int .i64 N1)).setCell ⟨b6, 1, none⟩ (.slice A6 n1 c6)) = e7 at *
                refine hK.out _ _ (HK.out _ hBel) (fun hHeld => ?_)
                clear hK KK
                simp only [List.setIfInBounds_toArray, List.set_cons_zero, List.set_cons_succ]
                refine wpAnyH_done (by kernel_rfl) ?_ _
                exact ⟨rfl, A5, A6, c5, c6, b5, b6, rfl, hb5, hb6, o5.row, o6.row, hBel⟩
              exact AllReadyH.nil
            exact AllReadyH.nil
          exact AllReadyH.nil
        exact AllReadyH.nil
      refine AllReadyH.cons (o := { dst := some 5, op := _, type := _, pos := _, after := _, guard := _ }) rfl (fun KK hK => ?_) ?_
      · obtain ⟨b5, hbb5⟩ : ∃ b, b = v1.heap.size := ⟨_, rfl⟩
        have hs : Below v1.heap.size v1 (v1.alloc (.cells #[.int .i64 0, .slice none 0 0] 26)) := (Below.refl _ _).alloc (Nat.le_refl _) _
        have hb5 := RBox.new v1 0 none 0 0
        rw [← hbb5] at hb5
        go_simp
        have b5_ : w1.heap.size ≤ b5 := by have := hBel.size; omega
        have hne : b5 ≠ b6 := by have := hb6.lt; omega
        rw [← hbb5]
        generalize v1.alloc (.cells #[.int .i64 0, .slice none 0 0] 26) = v2 at *
        clear hbb5
        replace hb6 := hb6.below hs hb6.lt
        replace hBel := hBel.trans (hs.mono hBel.size)
        clear hs
        refine hK.out _ _ (HK.out _ hBel) (fun hHeld => ?_)
        clear hK KK
        simp only [List.setIfInBounds_toArray, List.set_cons_zero, List.set_cons_succ]
        refine wpAnyH_ready (rs := [1]) (by kernel_rfl) (by simp) ?_
        refine AllReadyH.cons (o := { dst := some 22, op := _, type := _, pos := _, after := _, guard := _ }) rfl (fun KK hK => ?_) ?_
        · go_simp
          refine (C1.out _ ((r0.below hBel).wide hBel.size)).mono ?_
          rintro e v3 ⟨A5, c5, rfl, o5, hs⟩
          go_wp2_with fail
          have m55 : blk A5 ≠ some b5 := fun e => by have := (o5.lt e).1; have := hb5.lt; omega
          have m56 : blk A5 ≠ some b6 := fun e => by have := (o5.lt e).1; have := hb6.lt; omega
          replace hb5 := hb5.below hs hb5.lt
          replace hb6 := hb6.below hs hb6.lt
          replace hBel := hBel.trans (hs.mono hBel.size)
          clear hs
          refine hK.out _ _ (HK.out _ hBel) (fun hHeld => ?_)
          clear hK KK
          simp only [List.setIfInBounds_toArray, List.set_cons_zero, List.set_cons_succ]
          refine wpAnyH_ready (rs := [3]) (by kernel_rfl) (by simp) ?_
          refine AllReadyH.cons (o := { dst := some 24, op := _, type := _, pos := _, after := _, guard := _ }) rfl (fun KK hK => ?_) ?_
          · go_simp
            refine (C2.out _ ((r1.below hBel).wide hBel.size)).mono ?_
            rintro e v4 ⟨A6, c6, rfl, o6, hs⟩
            go_wp2_with fail
            have m65 : blk A6 ≠ some b5 := fun e => by have := (o6.lt e).1; have := hb5.lt; omega
            have m66 : blk A6 ≠ some b6 := fun e => by have := (o6.lt e).1; have := hb6.lt; omega
            replace o5 := o5.kept ⟨hs.os, hs.tape, hs.output, hs.size, fun q hq _ => hs.block q hq⟩ (.inr (show blk A5 ≠ some v3.heap.size from fun e => by have := (o5.lt e).2; omega))
            replace hb5 := hb5.below hs hb5.lt
            replace hb6 := hb6.below hs hb6.lt
            replace hBel := hBel.trans (hs.mono hBel.size)
            clear hs
            refine hK.out _ _ (HK.out _ hBel) (fun hHeld => ?_)
            clear hK KK
            simp only [List.setIfInBounds_toArray, List.set_cons_zero, List.set_cons_succ]
            have n5 : ∀ q, (q = b5 ∨ q = b6) → blk A5 ≠ some q := fun q hq => by rcases hq with h | h <;> rw [h]; exact m55; exact m56
            have n6 : ∀ q, (q = b5 ∨ q = b6) → blk A6 ≠ some q := fun q hq => by rcases hq with h | h <;> rw [h]; exact m65; exact m66
            refine wpAnyH_ready (rs := [6]) (by kernel_rfl) (by simp) ?_
            refine AllReadyH.cons (o := { dst := none, op := _, type := _, pos := _, after := _, guard := _ }) rfl (fun KK hK => ?_) ?_
            · have s0 := hb5.cell.1
              have s1 := hb5.cell.2
              have g0 := hb5.free 0
              have g1 := hb5.free 1
              have hgr := grown_two v4 b5 (.int .i64 N0) (.slice A5 n0 c5)
              replace hb5 := set2 hb5 N0 A5 n0 c5
              replace hb6 := hb6.grown hgr (fun e => by injection e with e; omega)
              replace o5 := o5.kept hgr (.inr (n5 _ (.inl rfl)))
              replace o6 := o6.kept hgr (.inr (n6 _ (.inl rfl)))
              replace hBel := hBel.grown hgr hBel.size (fun j hj => by injection hj with hj; omega)
              go_simp
              clear s0 s1 g0 g1 hgr
              generalize ((v4.setCell ⟨b5, 0, none⟩ (.int .i64 N0)).setCell ⟨b5, 1, none⟩ (.slice A5 n0 c5)) = e6 at *
              refine hK.out _ _ (HK.out _ hBel) (fun hHeld => ?_)
              clear hK KK
              simp only [List.setIfInBounds_toArray, List.set_cons_zero, List.set_cons_succ]
              refine wpAnyH_ready (rs := [7]) (by kernel_rfl) (by simp) ?_
              refine AllReadyH.cons (o := { dst := none, op := _, type := _, pos := _, after := _, guard := _ }) rfl (fun KK hK => ?_) ?_
              · have s0 := hb6.cell.1
                have s1 := hb6.cell.2
                have g0 := hb6.free 0
                have g1 := hb6.free 1
                have hgr := grown_two e6 b6 (.int .i64 N1) (.slice A6 n1 c6)
                replace hb6 := set2 hb6 N1 A6 n1 c6
                replace hb5 := hb5.grown hgr (fun e => by injection e with e; omega)
                replace o5 := o5.kept hgr (.inr (n5 _ (.inr rfl)))
                replace o6 := o6.kept hgr (.inr (n6 _ (.inr rfl)))
                replace hBel := hBel.grown hgr hBel.size (fun j hj => by injection hj with hj; omega)
                go_simp
                clear s0 s1 g0 g1 hgr
                generalize ((e6.setCell ⟨b6, 0, none⟩ (.int .i64 N1)).setCell ⟨b6, 1, none⟩ (.slice A6 n1 c6)) = e7 at *
                refine hK.out _ _ (HK.out _ hBel) (fun hHeld => ?_)
                clear hK KK
                simp only [List.setIfInBounds_toArray, List.set_cons_zero, List.set_cons_succ]
                refine wpAnyH_done (by kernel_rfl) ?_ _
                exact ⟨rfl, A5, A6, c5, c6, b5, b6, rfl, hb5, hb6, o5.row, o6.row, hBel⟩
              exact AllReadyH.nil
            exact AllReadyH.nil
          exact AllReadyH.nil
        exact AllReadyH.nil
      exact AllReadyH.nil
    exact AllReadyH.nil
  rintro e a' w2 ⟨rfl, A5, A6, c5, c6, b5, b6, rfl, x5, x6, r5, r6, hb⟩
  clear HK c_x0_0 c_x0_1 c_x1_0 c_x1_1
  have x0 := x0.below hb x0.lt
  have x1 := x1.below hb x1.lt
  have r0 := (r0.below hb).wide hb.size
  have r1 := (r1.below hb).wide hb.size
  have hbel := hbel.trans (hb.mono hbel.size)
  clear hb
  obtain ⟨c_x0_0, c_x0_1⟩ := x0.cell
  obtain ⟨c_x1_0, c_x1_1⟩ := x1.cell
  obtain ⟨c_x5_0, c_x5_1⟩ := x5.cell
  obtain ⟨c_x6_0, c_x6_1⟩ := x6.cell
  clear C1 C2 b0 b1
  by_cases hab : ¬ (Rst.formed N0 l0 = true ∧ Rst.formed N1 l1 = true ∧ N0 = N1)
  · skip
    have CA := Lib.hid (fun A1 A2 c1 c2 (W : World) h1 h2 => andE N0 N1 A1 A2 n0 n1 c1 c2 l0 l1 W e0 e1 (by omega) (by omega) h1 h2 hab)
    have CO := Lib.hid (fun A1 A2 c1 c2 (W : World) h1 h2 => orE N0 N1 A1 A2 n0 n1 c1 c2 l0 l1 W e0 e1 (by omega) (by omega) h1 h2 hab)
    have CM := Lib.hid (fun A1 A2 c1 c2 (W : World) h1 h2 => minusE N0 N1 A1 A2 n0 n1 c1 c2 l0 l1 W e0 e1 (by omega) (by omega) h1 h2 hab)
    have CJ := Lib.hid (fun (z : Int) A1 A2 c1 c2 (W : World) h1 h2 => refJE z N0 N1 A1 A2 n0 n1 c1 c2 l0 l1 W e0 e1 (by omega) (by omega) h1 h2 hab)
    have CS0 := Lib.hid (fun A1 A2 c1 c2 (W : World) h1 h2 => sameL 0 [] 0 rfl (by omega) A1 A2 c1 c2 W h1 h2)
    have CSa := Lib.hid (fun A1 A2 c1 c2 (W : World) h1 h2 => sameL N0 l0 n0 e0 hn0 A1 A2 c1 c2 W h1 h2)
    have CSb := Lib.hid (fun A1 A2 c1 c2 (W : World) h1 h2 => sameL N1 l1 n1 e1 hn1 A1 A2 c1 c2 W h1 h2)
    clear e0 e1 hab
    go_wp2_with fail
    refine (CA.out _ _ _ _ _ r5 r6).mono ?_
    rintro e w3 ⟨A7, c7, rfl, q7, hb⟩
    have x0 := x0.below hb x0.lt
    have x1 := x1.below hb x1.lt
    have x5 := x5.below hb x5.lt
    have x6 := x6.below hb x6.lt
    have r0 := (r0.below hb).wide hb.size
    have r1 := (r1.below hb).wide hb.size
    have r5 := (r5.below hb).wide hb.size
    have r6 := (r6.below hb).wide hb.size
    have hbel := hbel.trans (hb.mono hbel.size)
    clear hb
    have hbA : Below w3.heap.size w3 (w3.alloc (.cells #[.int .i64 0, .slice A7 0 c7] 26)) := (Below.refl _ _).alloc (Nat.le_refl _) _
    have x7N := RBox.new w3 0 A7 0 c7
    have x0 := x0.below hbA x0.lt
    have x1 := x1.below hbA x1.lt
    have x5 := x5.below hbA x5.lt
    have x6 := x6.below hbA x6.lt
    have r0 := (r0.below hbA).wide hbA.size
    have r1 := (r1.below hbA).wide hbA.size
    have r5 := (r5.below hbA).wide hbA.size
    have r6 := (r6.below hbA).wide hbA.size
    have q7 := (q7.below hbA).wide hbA.size
    have hbel := hbel.trans (hbA.mono hbel.size)
    obtain ⟨b_x7, hb_x7⟩ : ∃ b, b = w3.heap.size := ⟨_, rfl⟩
    rw [← hb_x7] at x7N
    have HB_x7 := Lib.hid hb_x7
    have x7 := x7N
    clear hbA x7N hb_x7
    clear c_x0_0 c_x0_1 c_x1_0 c_x1_1 c_x5_0 c_x5_1 c_x6_0 c_x6_1
    obtain ⟨c_x0_0, c_x0_1⟩ := x0.cell
    obtain ⟨c_x1_0, c_x1_1⟩ := x1.cell
    obtain ⟨c_x5_0, c_x5_1⟩ := x5.cell
    obtain ⟨c_x6_0, c_x6_1⟩ := x6.cell
    obtain ⟨c_x7_0, c_x7_1⟩ := x7.cell
    go_wp2_with fail
    generalize (w3.alloc (.cells #[.int .i64 0, .slice A7 0 c7] 26)) = w4 at *
    rw [← HB_x7.out]
    refine (CO.out _ _ _ _ _ r5 r6).mono ?_
    rintro e w5 ⟨A9, c9, rfl, q9, hb⟩
    have x0 := x0.below hb x0.lt
    have x1 := x1.below hb x1.lt
    have x5 := x5.below hb x5.lt
    have x6 := x6.below hb x6.lt
    have x7 := x7.below hb x7.lt
    have r0 := (r0.below hb).wide hb.size
    have r1 := (r1.below hb).wide hb.size
    have r5 := (r5.below hb).wide hb.size
    have r6 := (r6.below hb).wide hb.size
    have q7 := (q7.below hb).wide hb.size
    have hbel := hbel.trans (hb.mono hbel.size)
    clear hb
    have hbA : Below w5.heap.size w5 (w5.alloc (.cells #[.int .i64 0, .slice A9 0 c9] 26)) := (Below.refl _ _).alloc (Nat.le_refl _) _
    have x9N := RBox.new w5 0 A9 0 c9
    have x0 := x0.below hbA x0.lt
    have x1 := x1.below hbA x1.lt
    have x5 := x5.below hbA x5.lt
    have x6 := x6.below hbA x6.lt
    have x7 := x7.below hbA x7.lt
    have r0 := (r0.below hbA).wide hbA.size
    have r1 := (r1.below hbA).wide hbA.size
    have r5 := (r5.below hbA).wide hbA.size
    have r6 := (r6.below hbA).wide hbA.size
    have q7 := (q7.below hbA).wide hbA.size
    have q9 := (q9.below hbA).wide hbA.size
    have hbel := hbel.trans (hbA.mono hbel.size)
    obtain ⟨b_x9, hb_x9⟩ : ∃ b, b = w5.heap.size := ⟨_, rfl⟩
    rw [← hb_x9] at x9N
    have HB_x9 := Lib.hid hb_x9
    have x9 := x9N
    clear hbA x9N hb_x9
    clear c_x0_0 c_x0_1 c_x1_0 c_x1_1 c_x5_0 c_x5_1 c_x6_0 c_x6_1 c_x7_0 c_x7_1
    obtain ⟨c_x0_0, c_x0_1⟩ := x0.cell
    obtain ⟨c_x1_0, c_x1_1⟩ := x1.cell
    obtain ⟨c_x5_0, c_x5_1⟩ := x5.cell
    obtain ⟨c_x6_0, c_x6_1⟩ := x6.cell
    obtain ⟨c_x7_0, c_x7_1⟩ := x7.cell
    obtain ⟨c_x9_0, c_x9_1⟩ := x9.cell
    go_wp2_with fail
    generalize (w5.alloc (.cells #[.int .i64 0, .slice A9 0 c9] 26)) = w6 at *
    rw [← HB_x9.out]
    refine (CM.out _ _ _ _ _ r5 r6).mono ?_
    rintro e w7 ⟨A11, c11, rfl, q11, hb⟩
    have x0 := x0.below hb x0.lt
    have x1 := x1.below hb x1.lt
    have x5 := x5.below hb x5.lt
    have x6 := x6.below hb x6.lt
    have x7 := x7.below hb x7.lt
    have x9 := x9.below hb x9.lt
    have r0 := (r0.below hb).wide hb.size
    have r1 := (r1.below hb).wide hb.size
    have r5 := (r5.below hb).wide hb.size
    have r6 := (r6.below hb).wide hb.size
    have q7 := (q7.below hb).wide hb.size
    have q9 := (q9.below hb).wide hb.size
    have hbel := hbel.trans (hb.mono hbel.size)
    clear hb
    have hbA : Below w7.heap.size w7 (w7.alloc (.cells #[.int .i64 0, .slice A11 0 c11] 26)) := (Below.refl _ _).alloc (Nat.le_refl _) _
    have x11N := RBox.new w7 0 A11 0 c11
    have x0 := x0.below hbA x0.lt
    have x1 := x1.below hbA x1.lt
    have x5 := x5.below hbA x5.lt
    have x6 := x6.below hbA x6.lt
    have x7 := x7.below hbA x7.lt
    have x9 := x9.below hbA x9.lt
    have r0 := (r0.below hbA).wide hbA.size
    have r1 := (r1.below hbA).wide hbA.size
    have r5 := (r5.below hbA).wide hbA.size
    have r6 := (r6.below hbA).wide hbA.size
    have q7 := (q7.below hbA).wide hbA.size
    have q9 := (q9.below hbA).wide hbA.size
    have q11 := (q11.below hbA).wide hbA.size
    have hbel := hbel.trans (hbA.mono hbel.size)
    obtain ⟨b_x11, hb_x11⟩ : ∃ b, b = w7.heap.size := ⟨_, rfl⟩
    rw [← hb_x11] at x11N
    have HB_x11 := Lib.hid hb_x11
    have x11 := x11N
    clear hbA x11N hb_x11
    clear c_x0_0 c_x0_1 c_x1_0 c_x1_1 c_x5_0 c_x5_1 c_x6_0 c_x6_1 c_x7_0 c_x7_1 c_x9_0 c_x9_1
    obtain ⟨c_x0_0, c_x0_1⟩ := x0.cell
    obtain ⟨c_x1_0, c_x1_1⟩ := x1.cell
    obtain ⟨c_x5_0, c_x5_1⟩ := x5.cell
    obtain ⟨c_x6_0, c_x6_1⟩ := x6.cell
    obtain ⟨c_x7_0, c_x7_1⟩ := x7.cell
    obtain ⟨c_x9_0, c_x9_1⟩ := x9.cell
    obtain ⟨c_x11_0, c_x11_1⟩ := x11.cell
    go_wp2_with fail
    generalize (w7.alloc (.cells #[.int .i64 0, .slice A11 0 c11] 26)) = w8 at *
    rw [← HB_x11.out]
    refine (CJ.out 0 _ _ _ _ _ r0 r1).mono ?_
    rintro e w9 ⟨rfl, hb⟩
    have x0 := x0.below hb x0.lt
    have x1 := x1.below hb x1.lt
    have x5 := x5.below hb x5.lt
    have x6 := x6.below hb x6.lt
    have x7 := x7.below hb x7.lt
    have x9 := x9.below hb x9.lt
    have x11 := x11.below hb x11.lt
    have r0 := (r0.below hb).wide hb.size
    have r1 := (r1.below hb).wide hb.size
    have r5 := (r5.below hb).wide hb.size
    have r6 := (r6.below hb).wide hb.size
    have q7 := (q7.below hb).wide hb.size
    have q9 := (q9.below hb).wide hb.size
    have q11 := (q11.below hb).wide hb.size
    have hbel := hbel.trans (hb.mono hbel.size)
    clear hb
    have hbA : Below w9.heap.size w9 (w9.alloc (.cells #[.int .i64 0, .slice none 0 0] 26)) := (Below.refl _ _).alloc (Nat.le_refl _) _
    have x13N := RBox.new w9 0 none 0 0
    have x0 := x0.below hbA x0.lt
    have x1 := x1.below hbA x1.lt
    have x5 := x5.below hbA x5.lt
    have x6 := x6.below hbA x6.lt
    have x7 := x7.below hbA x7.lt
    have x9 := x9.below hbA x9.lt
    have x11 := x11.below hbA x11.lt
    have r0 := (r0.below hbA).wide hbA.size
    have r1 := (r1.below hbA).wide hbA.size
    have r5 := (r5.below hbA).wide hbA.size
    have r6 := (r6.below hbA).wide hbA.size
    have q7 := (q7.below hbA).wide hbA.size
    have q9 := (q9.below hbA).wide hbA.size
    have q11 := (q11.below hbA).wide hbA.size
    have hbel := hbel.trans (hbA.mono hbel.size)
    obtain ⟨b_x13, hb_x13⟩ : ∃ b, b = w9.heap.size := ⟨_, rfl⟩
    rw [← hb_x13] at x13N
    have HB_x13 := Lib.hid hb_x13
    have x13 := x13N
    clear hbA x13N hb_x13
    clear c_x0_0 c_x0_1 c_x1_0 c_x1_1 c_x5_0 c_x5_1 c_x6_0 c_x6_1 c_x7_0 c_x7_1 c_x9_0 c_x9_1 c_x11_0 c_x11_1
    obtain ⟨c_x0_0, c_x0_1⟩ := x0.cell
    obtain ⟨c_x1_0, c_x1_1⟩ := x1.cell
    obtain ⟨c_x5_0, c_x5_1⟩ := x5.cell
    obtain ⟨c_x6_0, c_x6_1⟩ := x6.cell
    obtain ⟨c_x7_0, c_x7_1⟩ := x7.cell
    obtain ⟨c_x9_0, c_x9_1⟩ := x9.cell
    obtain ⟨c_x11_0, c_x11_1⟩ := x11.cell
    obtain ⟨c_x13_0, c_x13_1⟩ := x13.cell
    go_wp2_with fail
    generalize (w9.alloc (.cells #[.int .i64 0, .slice none 0 0] 26)) = w10 at *
    rw [← HB_x13.out]
    refine (CJ.out 1 _ _ _ _ _ r0 r1).mono ?_
    rintro e w11 ⟨rfl, hb⟩
    have x0 := x0.below hb x0.lt
    have x1 := x1.below hb x1.lt
    have x5 := x5.below hb x5.lt
    have x6 := x6.below hb x6.lt
    have x7 := x7.below hb x7.lt
    have x9 := x9.below hb x9.lt
    have x11 := x11.below hb x11.lt
    have x13 := x13.below hb x13.lt
    have r0 := (r0.below hb).wide hb.size
    have r1 := (r1.below hb).wide hb.size
    have r5 := (r5.below hb).wide hb.size
    have r6 := (r6.below hb).wide hb.size
    have q7 := (q7.below hb).wide hb.size
    have q9 := (q9.below hb).wide hb.size
    have q11 := (q11.below hb).wide hb.size
    have hbel := hbel.trans (hb.mono hbel.size)
    clear hb
    have hbA : Below w11.heap.size w11 (w11.alloc (.cells #[.int .i64 0, .slice none 0 0] 26)) := (Below.refl _ _).alloc (Nat.le_refl _) _
    have x15N := RBox.new w11 0 none 0 0
    have x0 := x0.below hbA x0.lt
    have x1 := x1.below hbA x1.lt
    have x5 := x5.below hbA x5.lt
    have x6 := x6.below hbA x6.lt
    have x7 := x7.below hbA x7.lt
    have x9 := x9.below hbA x9.lt
    have x11 := x11.below hbA x11.lt
    have x13 := x13.below hbA x13.lt
    have r0 := (r0.below hbA).wide hbA.size
    have r1 := (r1.below hbA).wide hbA.size
    have r5 := (r5.below hbA).wide hbA.size
    have r6 := (r6.below hbA).wide hbA.size
    have q7 := (q7.below hbA).wide hbA.size
    have q9 := (q9.below hbA).wide hbA.size
    have q11 := (q11.below hbA).wide hbA.size
    have hbel := hbel.trans (hbA.mono hbel.size)
    obtain ⟨b_x15, hb_x15⟩ : ∃ b, b = w11.heap.size := ⟨_, rfl⟩
    rw [← hb_x15] at x15N
    have HB_x15 := Lib.hid hb_x15
    have x15 := x15N
    clear hbA x15N hb_x15
    clear c_x0_0 c_x0_1 c_x1_0 c_x1_1 c_x5_0 c_x5_1 c_x6_0 c_x6_1 c_x7_0 c_x7_1 c_x9_0 c_x9_1 c_x11_0 c_x11_1 c_x13_0 c_x13_1
    obtain ⟨c_x0_0, c_x0_1⟩ := x0.cell
    obtain ⟨c_x1_0, c_x1_1⟩ := x1.cell
    obtain ⟨c_x5_0, c_x5_1⟩ := x5.cell
    obtain ⟨c_x6_0, c_x6_1⟩ := x6.cell
    obtain ⟨c_x7_0, c_x7_1⟩ := x7.cell
    obtain ⟨c_x9_0, c_x9_1⟩ := x9.cell
    obtain ⟨c_x11_0, c_x11_1⟩ := x11.cell
    obtain ⟨c_x13_0, c_x13_1⟩ := x13.cell
    obtain ⟨c_x15_0, c_x15_1⟩ := x15.cell
    go_wp2_with fail
    generalize (w11.alloc (.cells #[.int .i64 0, .slice none 0 0] 26)) = w12 at *
    rw [← HB_x15.out]
    refine (CJ.out 2 _ _ _ _ _ r0 r1).mono ?_
    rintro e w13 ⟨rfl, hb⟩
    have x0 := x0.below hb x0.lt
    have x1 := x1.below hb x1.lt
    have x5 := x5.below hb x5.lt
    have x6 := x6.below hb x6.lt
    have x7 := x7.below hb x7.lt
    have x9 := x9.below hb x9.lt
    have x11 := x11.below hb x11.lt
    have x13 := x13.below hb x13.lt
    have x15 := x15.below hb x15.lt
    have r0 := (r0.below hb).wide hb.size
    have r1 := (r1.below hb).wide hb.size
    have r5 := (r5.below hb).wide hb.size
    have r6 := (r6.below hb).wide hb.size
    have q7 := (q7.below hb).wide hb.size
    have q9 := (q9.below hb).wide hb.size
    have q11 := (q11.below hb).wide hb.size
    have hbel := hbel.trans (hb.mono hbel.size)
    clear hb
    have hbA : Below w13.heap.size w13 (w13.alloc (.cells #[.int .i64 0, .slice none 0 0] 26)) := (Below.refl _ _).alloc (Nat.le_refl _) _
    have x17N := RBox.new w13 0 none 0 0
    have x0 := x0.below hbA x0.lt
    have x1 := x1.below hbA x1.lt
    have x5 := x5.below hbA x5.lt
    have x6 := x6.below hbA x6.lt
    have x7 := x7.below hbA x7.lt
    have x9 := x9.below hbA x9.lt
    have x11 := x11.below hbA x11.lt
    have x13 := x13.below hbA x13.lt
    have x15 := x15.below hbA x15.lt
    have r0 := (r0.below hbA).wide hbA.size
    have r1 := (r1.below hbA).wide hbA.size
    have r5 := (r5.below hbA).wide hbA.size
    have r6 := (r6.below hbA).wide hbA.size
    have q7 := (q7.below hbA).wide hbA.size
    have q9 := (q9.below hbA).wide hbA.size
    have q11 := (q11.below hbA).wide hbA.size
    have hbel := hbel.trans (hbA.mono hbel.size)
    obtain ⟨b_x17, hb_x17⟩ : ∃ b, b = w13.heap.size := ⟨_, rfl⟩
    rw [← hb_x17] at x17N
    have HB_x17 := Lib.hid hb_x17
    have x17 := x17N
    clear hbA x17N hb_x17
    clear c_x0_0 c_x0_1 c_x1_0 c_x1_1 c_x5_0 c_x5_1 c_x6_0 c_x6_1 c_x7_0 c_x7_1 c_x9_0 c_x9_1 c_x11_0 c_x11_1 c_x13_0 c_x13_1 c_x15_0 c_x15_1
    obtain ⟨c_x0_0, c_x0_1⟩ := x0.cell
    obtain ⟨c_x1_0, c_x1_1⟩ := x1.cell
    obtain ⟨c_x5_0, c_x5_1⟩ := x5.cell
    obtain ⟨c_x6_0, c_x6_1⟩ := x6.cell
    obtain ⟨c_x7_0, c_x7_1⟩ := x7.cell
    obtain ⟨c_x9_0, c_x9_1⟩ := x9.cell
    obtain ⟨c_x11_0, c_x11_1⟩ := x11.cell
    obtain ⟨c_x13_0, c_x13_1⟩ := x13.cell
    obtain ⟨c_x15_0, c_x15_1⟩ := x15.cell
    obtain ⟨c_x17_0, c_x17_1⟩ := x17.cell
    go_wp2_with fail
    generalize (w13.alloc (.cells #[.int .i64 0, .slice none 0 0] 26)) = w14 at *
    rw [← HB_x17.out]
    refine (CS0.out _ _ _ _ _ q7 (Row.nil _ _ _ _)).mono ?_
    rintro e w15 ⟨rfl, hb⟩
    have x0 := x0.below hb x0.lt
    have x1 := x1.below hb x1.lt
    have x5 := x5.below hb x5.lt
    have x6 := x6.below hb x6.lt
    have x7 := x7.below hb x7.lt
    have x9 := x9.below hb x9.lt
    have x11 := x11.below hb x11.lt
    have x13 := x13.below hb x13.lt
    have x15 := x15.below hb x15.lt
    have x17 := x17.below hb x17.lt
    have r0 := (r0.below hb).wide hb.size
    have r1 := (r1.below hb).wide hb.size
    have r5 := (r5.below hb).wide hb.size
    have r6 := (r6.below hb).wide hb.size
    have q7 := (q7.below hb).wide hb.size
    have q9 := (q9.below hb).wide hb.size
    have q11 := (q11.below hb).wide hb.size
    have hbel := hbel.trans (hb.mono hbel.size)
    clear hb
    clear c_x0_0 c_x0_1 c_x1_0 c_x1_1 c_x5_0 c_x5_1 c_x6_0 c_x6_1 c_x7_0 c_x7_1 c_x9_0 c_x9_1 c_x11_0 c_x11_1 c_x13_0 c_x13_1 c_x15_0 c_x15_1 c_x17_0 c_x17_1
    obtain ⟨c_x0_0, c_x0_1⟩ := x0.cell
    obtain ⟨c_x1_0, c_x1_1⟩ := x1.cell
    obtain ⟨c_x5_0, c_x5_1⟩ := x5.cell
    obtain ⟨c_x6_0, c_x6_1⟩ := x6.cell
    obtain ⟨c_x7_0, c_x7_1⟩ := x7.cell
    obtain ⟨c_x9_0, c_x9_1⟩ := x9.cell
    obtain ⟨c_x11_0, c_x11_1⟩ := x11.cell
    obtain ⟨c_x13_0, c_x13_1⟩ := x13.cell
    obtain ⟨c_x15_0, c_x15_1⟩ := x15.cell
    obtain ⟨c_x17_0, c_x17_1⟩ := x17.cell
    go_wp2_with fail
    refine (CS0.out _ _ _ _ _ q9 (Row.nil _ _ _ _)).mono ?_
    rintro e w16 ⟨rfl, hb⟩
    have x0 := x0.below hb x0.lt
    have x1 := x1.below hb x1.lt
    have x5 := x5.below hb x5.lt
    have x6 := x6.below hb x6.lt
    have x7 := x7.below hb x7.lt
    have x9 := x9.below hb x9.lt
    have x11 := x11.below hb x11.lt
    have x13 := x13.below hb x13.lt
    have x15 := x15.below hb x15.lt
    have x17 := x17.below hb x17.lt
    have r0 := (r0.below hb).wide hb.size
    have r1 := (r1.below hb).wide hb.size
    have r5 := (r5.below hb).wide hb.size
    have r6 := (r6.below hb).wide hb.size
    have q7 := (q7.below hb).wide hb.size
    have q9 := (q9.below hb).wide hb.size
    have q11 := (q11.below hb).wide hb.size
    have hbel := hbel.trans (hb.mono hbel.size)
    clear hb
    clear c_x0_0 c_x0_1 c_x1_0 c_x1_1 c_x5_0 c_x5_1 c_x6_0 c_x6_1 c_x7_0 c_x7_1 c_x9_0 c_x9_1 c_x11_0 c_x11_1 c_x13_0 c_x13_1 c_x15_0 c_x15_1 c_x17_0 c_x17_1
    obtain ⟨c_x0_0, c_x0_1⟩ := x0.cell
    obtain ⟨c_x1_0, c_x1_1⟩ := x1.cell
    obtain ⟨c_x5_0, c_x5_1⟩ := x5.cell
    obtain ⟨c_x6_0, c_x6_1⟩ := x6.cell
    obtain ⟨c_x7_0, c_x7_1⟩ := x7.cell
    obtain ⟨c_x9_0, c_x9_1⟩ := x9.cell
    obtain ⟨c_x11_0, c_x11_1⟩ := x11.cell
    obtain ⟨c_x13_0, c_x13_1⟩ := x13.cell
    obtain ⟨c_x15_0, c_x15_1⟩ := x15.cell
    obtain ⟨c_x17_0, c_x17_1⟩ := x17.cell
    go_wp2_with fail
    refine (CS0.out _ _ _ _ _ q11 (Row.nil _ _ _ _)).mono ?_
    rintro e w17 ⟨rfl, hb⟩
    have x0 := x0.below hb x0.lt
    have x1 := x1.below hb x1.lt
    have x5 := x5.below hb x5.lt
    have x6 := x6.below hb x6.lt
    have x7 := x7.below hb x7.lt
    have x9 := x9.below hb x9.lt
    have x11 := x11.below hb x11.lt
    have x13 := x13.below hb x13.lt
    have x15 := x15.below hb x15.lt
    have x17 := x17.below hb x17.lt
    have r0 := (r0.below hb).wide hb.size
    have r1 := (r1.below hb).wide hb.size
    have r5 := (r5.below hb).wide hb.size
    have r6 := (r6.below hb).wide hb.size
    have q7 := (q7.below hb).wide hb.size
    have q9 := (q9.below hb).wide hb.size
    have q11 := (q11.below hb).wide hb.size
    have hbel := hbel.trans (hb.mono hbel.size)
    clear hb
    clear c_x0_0 c_x0_1 c_x1_0 c_x1_1 c_x5_0 c_x5_1 c_x6_0 c_x6_1 c_x7_0 c_x7_1 c_x9_0 c_x9_1 c_x11_0 c_x11_1 c_x13_0 c_x13_1 c_x15_0 c_x15_1 c_x17_0 c_x17_1
    obtain ⟨c_x0_0, c_x0_1⟩ := x0.cell
    obtain ⟨c_x1_0, c_x1_1⟩ := x1.cell
    obtain ⟨c_x5_0, c_x5_1⟩ := x5.cell
    obtain ⟨c_x6_0, c_x6_1⟩ := x6.cell
    obtain ⟨c_x7_0, c_x7_1⟩ := x7.cell
    obtain ⟨c_x9_0, c_x9_1⟩ := x9.cell
    obtain ⟨c_x11_0, c_x11_1⟩ := x11.cell
    obtain ⟨c_x13_0, c_x13_1⟩ := x13.cell
    obtain ⟨c_x15_0, c_x15_1⟩ := x15.cell
    obtain ⟨c_x17_0, c_x17_1⟩ := x17.cell
    go_wp2_with fail
    refine (CSa.out _ _ _ _ _ r5 r0).mono ?_
    rintro e w18 ⟨rfl, hb⟩
    have x0 := x0.below hb x0.lt
    have x1 := x1.below hb x1.lt
    have x5 := x5.below hb x5.lt
    have x6 := x6.below hb x6.lt
    have x7 := x7.below hb x7.lt
    have x9 := x9.below hb x9.lt
    have x11 := x11.below hb x11.lt
    have x13 := x13.below hb x13.lt
    have x15 := x15.below hb x15.lt
    have x17 := x17.below hb x17.lt
    have r0 := (r0.below hb).wide hb.size
    have r1 := (r1.below hb).wide hb.size
    have r5 := (r5.below hb).wide hb.size
    have r6 := (r6.below hb).wide hb.size
    have q7 := (q7.below hb).wide hb.size
    have q9 := (q9.below hb).wide hb.size
    have q11 := (q11.below hb).wide hb.size
    have hbel := hbel.trans (hb.mono hbel.size)
    clear hb
    clear c_x0_0 c_x0_1 c_x1_0 c_x1_1 c_x5_0 c_x5_1 c_x6_0 c_x6_1 c_x7_0 c_x7_1 c_x9_0 c_x9_1 c_x11_0 c_x11_1 c_x13_0 c_x13_1 c_x15_0 c_x15_1 c_x17_0 c_x17_1
    obtain ⟨c_x0_0, c_x0_1⟩ := x0.cell
    obtain ⟨c_x1_0, c_x1_1⟩ := x1.cell
    obtain ⟨c_x5_0, c_x5_1⟩ := x5.cell
    obtain ⟨c_x6_0, c_x6_1⟩ := x6.cell
    obtain ⟨c_x7_0, c_x7_1⟩ := x7.cell
    obtain ⟨c_x9_0, c_x9_1⟩ := x9.cell
    obtain ⟨c_x11_0, c_x11_1⟩ := x11.cell
    obtain ⟨c_x13_0, c_x13_1⟩ := x13.cell
    obtain ⟨c_x15_0, c_x15_1⟩ := x15.cell
    obtain ⟨c_x17_0, c_x17_1⟩ := x17.cell
    go_wp2_with fail
    refine (CSb.out _ _ _ _ _ r6 r1).mono ?_
    rintro e w19 ⟨rfl, hb⟩
    have x0 := x0.below hb x0.lt
    have x1 := x1.below hb x1.lt
    have x5 := x5.below hb x5.lt
    have x6 := x6.below hb x6.lt
    have x7 := x7.below hb x7.lt
    have x9 := x9.below hb x9.lt
    have x11 := x11.below hb x11.lt
    have x13 := x13.below hb x13.lt
    have x15 := x15.below hb x15.lt
    have x17 := x17.below hb x17.lt
    have r0 := (r0.below hb).wide hb.size
    have r1 := (r1.below hb).wide hb.size
    have r5 := (r5.below hb).wide hb.size
    have r6 := (r6.below hb).wide hb.size
    have q7 := (q7.below hb).wide hb.size
    have q9 := (q9.below hb).wide hb.size
    have q11 := (q11.below hb).wide hb.size
    have hbel := hbel.trans (hb.mono hbel.size)
    clear hb
    clear c_x0_0 c_x0_1 c_x1_0 c_x1_1 c_x5_0 c_x5_1 c_x6_0 c_x6_1 c_x7_0 c_x7_1 c_x9_0 c_x9_1 c_x11_0 c_x11_1 c_x13_0 c_x13_1 c_x15_0 c_x15_1 c_x17_0 c_x17_1
    go_wp2
    go_ret
    exact ⟨rfl, hbel⟩
  · skip
    obtain ⟨hf0, hf1, hNN⟩ := Classical.not_not.1 hab
    obtain ⟨x, hx4, hN0, rfl⟩ := Rst.formed_iff.1 hf0
    obtain ⟨y, hy4, hN1, rfl⟩ := Rst.formed_iff.1 hf1
    obtain ⟨n, hn⟩ : ∃ n : Nat, N0 = n := ⟨x.length, hN0⟩
    have hx : x.length = n := by omega
    have hy : y.length = n := by omega
    have hn4 : n ≤ 4096 := by omega
    clear hab hf0 hf1 hN0 hN1 hx4 hy4
    subst hNN
    subst hn
    have hk0 : n0 = Rst.need n := by rw [← e0, Rst.pack_length, hx]
    have hk1 : n1 = Rst.need n := by rw [← e1, Rst.pack_length, hy]
    have CA := Lib.hid (andB hn4 x y hx hy)
    have CO := Lib.hid (orB hn4 x y hx hy)
    have CM := Lib.hid (minusB hn4 x y hx hy)
    have CJ0 := Lib.hid (refJ0B hn4 x y hx hy)
    have CJ1 := Lib.hid (refJ1B hn4 x y hx hy)
    have CJ2 := Lib.hid (refJ2B hn4 x y hx hy)
    have CS := Lib.hid (fun u hu A1 A2 c1 c2 (W : World) h1 h2 => sameB hn4 u u hu hu A1 A2 c1 c2 W h1 h2 rfl)
    obtain ⟨K, hK⟩ : ∃ K, K = Rst.need n := ⟨_, rfl⟩
    rw [← hK] at hk0 hk1 CA CO CM CJ0 CJ1 CJ2 CS
    subst hk0 hk1
    clear hK e0 e1
    have z0 := zip_len (f := fun a b => a && b) hx hy
    have z1 := zip_len (f := fun a b => a || b) hx hy
    have z2 := zip_len (f := fun a b => a && !b) hx hy
    generalize List.zipWith (fun a b => a && b) x y = p0 at *
    generalize List.zipWith (fun a b => a || b) x y = p1 at *
    generalize List.zipWith (fun a b => a && !b) x y = p2 at *
    have HX := Lib.hid hx
    have HY := Lib.hid hy
    have HZ := Lib.hid (And.intro z0 (And.intro z1 z2))
    clear hx hy z0 z1 z2
    go_wp2_with fail
    refine (CA.out _ _ _ _ _ r5 r6).mono ?_
    rintro e w3 ⟨A7, c7, rfl, q7, hb⟩
    have x0 := x0.below hb x0.lt
    have x1 := x1.below hb x1.lt
    have x5 := x5.below hb x5.lt
    have x6 := x6.below hb x6.lt
    have r0 := (r0.below hb).wide hb.size
    have r1 := (r1.below hb).wide hb.size
    have r5 := (r5.below hb).wide hb.size
    have r6 := (r6.below hb).wide hb.size
    have hbel := hbel.trans (hb.mono hbel.size)
    clear hb
    have hbA : Below w3.heap.size w3 (w3.alloc (.cells #[.int .i64 (n : Int), .slice A7 n1 c7] 26)) := (Below.refl _ _).alloc (Nat.le_refl _) _
    have x7N := RBox.new w3 (n : Int) A7 n1 c7
    have x0 := x0.below hbA x0.lt
    have x1 := x1.below hbA x1.lt
    have x5 := x5.below hbA x5.lt
    have x6 := x6.below hbA x6.lt
    have r0 := (r0.below hbA).wide hbA.size
    have r1 := (r1.below hbA).wide hbA.size
    have r5 := (r5.below hbA).wide hbA.size
    have r6 := (r6.below hbA).wide hbA.size
    have q7 := (q7.below hbA).wide hbA.size
    have hbel := hbel.trans (hbA.mono hbel.size)
    obtain ⟨b_x7, hb_x7⟩ : ∃ b, b = w3.heap.size := ⟨_, rfl⟩
    rw [← hb_x7] at x7N
    have HB_x7 := Lib.hid hb_x7
    have x7 := x7N
    clear hbA x7N hb_x7
    clear c_x0_0 c_x0_1 c_x1_0 c_x1_1 c_x5_0 c_x5_1 c_x6_0 c_x6_1
    obtain ⟨c_x0_0, c_x0_1⟩ := x0.cell
    obtain ⟨c_x1_0, c_x1_1⟩ := x1.cell
    obtain ⟨c_x5_0, c_x5_1⟩ := x5.cell
    obtain ⟨c_x6_0, c_x6_1⟩ := x6.cell
    obtain ⟨c_x7_0, c_x7_1⟩ := x7.cell
    go_wp2_with fail
    generalize (w3.alloc (.cells #[.int .i64 (n : Int), .slice A7 n1 c7] 26)) = w4 at *
    rw [← HB_x7.out]
    refine (CO.out _ _ _ _ _ r5 r6).mono ?_
    rintro e w5 ⟨A9, c9, rfl, q9, hb⟩
    have x0 := x0.below hb x0.lt
    have x1 := x1.below hb x1.lt
    have x5 := x5.below hb x5.lt
    have x6 := x6.below hb x6.lt
    have x7 := x7.below hb x7.lt
    have r0 := (r0.below hb).wide hb.size
    have r1 := (r1.below hb).wide hb.size
    have r5 := (r5.below hb).wide hb.size
    have r6 := (r6.below hb).wide hb.size
    have q7 := (q7.below hb).wide hb.size
    have hbel := hbel.trans (hb.mono hbel.size)
    clear hb
    have hbA : Below w5.heap.size w5 (w5.alloc (.cells #[.int .i64 (n : Int), .slice A9 n1 c9] 26)) := (Below.refl _ _).alloc (Nat.le_refl _) _
    have x9N := RBox.new w5 (n : Int) A9 n1 c9
    have x0 := x0.below hbA x0.lt
    have x1 := x1.below hbA x1.lt
    have x5 := x5.below hbA x5.lt
    have x6 := x6.below hbA x6.lt
    have x7 := x7.below hbA x7.lt
    have r0 := (r0.below hbA).wide hbA.size
    have r1 := (r1.below hbA).wide hbA.size
    have r5 := (r5.below hbA).wide hbA.size
    have r6 := (r6.below hbA).wide hbA.size
    have q7 := (q7.below hbA).wide hbA.size
    have q9 := (q9.below hbA).wide hbA.size
    have hbel := hbel.trans (hbA.mono hbel.size)
    obtain ⟨b_x9, hb_x9⟩ : ∃ b, b = w5.heap.size := ⟨_, rfl⟩
    rw [← hb_x9] at x9N
    have HB_x9 := Lib.hid hb_x9
    have x9 := x9N
    clear hbA x9N hb_x9
    clear c_x0_0 c_x0_1 c_x1_0 c_x1_1 c_x5_0 c_x5_1 c_x6_0 c_x6_1 c_x7_0 c_x7_1
    obtain ⟨c_x0_0, c_x0_1⟩ := x0.cell
    obtain ⟨c_x1_0, c_x1_1⟩ := x1.cell
    obtain ⟨c_x5_0, c_x5_1⟩ := x5.cell
    obtain ⟨c_x6_0, c_x6_1⟩ := x6.cell
    obtain ⟨c_x7_0, c_x7_1⟩ := x7.cell
    obtain ⟨c_x9_0, c_x9_1⟩ := x9.cell
    go_wp2_with fail
    generalize (w5.alloc (.cells #[.int .i64 (n : Int), .slice A9 n1 c9] 26)) = w6 at *
    rw [← HB_x9.out]
    refine (CM.out _ _ _ _ _ r5 r6).mono ?_
    rintro e w7 ⟨A11, c11, rfl, q11, hb⟩
    have x0 := x0.below hb x0.lt
    have x1 := x1.below hb x1.lt
    have x5 := x5.below hb x5.lt
    have x6 := x6.below hb x6.lt
    have x7 := x7.below hb x7.lt
    have x9 := x9.below hb x9.lt
    have r0 := (r0.below hb).wide hb.size
    have r1 := (r1.below hb).wide hb.size
    have r5 := (r5.below hb).wide hb.size
    have r6 := (r6.below hb).wide hb.size
    have q7 := (q7.below hb).wide hb.size
    have q9 := (q9.below hb).wide hb.size
    have hbel := hbel.trans (hb.mono hbel.size)
    clear hb
    have hbA : Below w7.heap.size w7 (w7.alloc (.cells #[.int .i64 (n : Int), .slice A11 n1 c11] 26)) := (Below.refl _ _).alloc (Nat.le_refl _) _
    have x11N := RBox.new w7 (n : Int) A11 n1 c11
    have x0 := x0.below hbA x0.lt
    have x1 := x1.below hbA x1.lt
    have x5 := x5.below hbA x5.lt
    have x6 := x6.below hbA x6.lt
    have x7 := x7.below hbA x7.lt
    have x9 := x9.below hbA x9.lt
    have r0 := (r0.below hbA).wide hbA.size
    have r1 := (r1.below hbA).wide hbA.size
    have r5 := (r5.below hbA).wide hbA.size
    have r6 := (r6.below hbA).wide hbA.size
    have q7 := (q7.below hbA).wide hbA.size
    have q9 := (q9.below hbA).wide hbA.size
    have q11 := (q11.below hbA).wide hbA.size
    have hbel := hbel.trans (hbA.mono hbel.size)
    obtain ⟨b_x11, hb_x11⟩ : ∃ b, b = w7.heap.size := ⟨_, rfl⟩
    rw [← hb_x11] at x11N
    have HB_x11 := Lib.hid hb_x11
    have x11 := x11N
    clear hbA x11N hb_x11
    clear c_x0_0 c_x0_1 c_x1_0 c_x1_1 c_x5_0 c_x5_1 c_x6_0 c_x6_1 c_x7_0 c_x7_1 c_x9_0 c_x9_1
    obtain ⟨c_x0_0, c_x0_1⟩ := x0.cell
    obtain ⟨c_x1_0, c_x1_1⟩ := x1.cell
    obtain ⟨c_x5_0, c_x5_1⟩ := x5.cell
    obtain ⟨c_x6_0, c_x6_1⟩ := x6.cell
    obtain ⟨c_x7_0, c_x7_1⟩ := x7.cell
    obtain ⟨c_x9_0, c_x9_1⟩ := x9.cell
    obtain ⟨c_x11_0, c_x11_1⟩ := x11.cell
    go_wp2_with fail
    generalize (w7.alloc (.cells #[.int .i64 (n : Int), .slice A11 n1 c11] 26)) = w8 at *
    rw [← HB_x11.out]
    refine (CJ0.out _ _ _ _ _ r0 r1).mono ?_
    rintro e w9 ⟨A13, c13, rfl, q13, hb⟩
    have x0 := x0.below hb x0.lt
    have x1 := x1.below hb x1.lt
    have x5 := x5.below hb x5.lt
    have x6 := x6.below hb x6.lt
    have x7 := x7.below hb x7.lt
    have x9 := x9.below hb x9.lt
    have x11 := x11.below hb x11.lt
    have r0 := (r0.below hb).wide hb.size
    have r1 := (r1.below hb).wide hb.size
    have r5 := (r5.below hb).wide hb.size
    have r6 := (r6.below hb).wide hb.size
    have q7 := (q7.below hb).wide hb.size
    have q9 := (q9.below hb).wide hb.size
    have q11 := (q11.below hb).wide hb.size
    have hbel := hbel.trans (hb.mono hbel.size)
    clear hb
    have hbA : Below w9.heap.size w9 (w9.alloc (.cells #[.int .i64 (n : Int), .slice A13 n1 c13] 26)) := (Below.refl _ _).alloc (Nat.le_refl _) _
    have x13N := RBox.new w9 (n : Int) A13 n1 c13
    have x0 := x0.below hbA x0.lt
    have x1 := x1.below hbA x1.lt
    have x5 := x5.below hbA x5.lt
    have x6 := x6.below hbA x6.lt
    have x7 := x7.below hbA x7.lt
    have x9 := x9.below hbA x9.lt
    have x11 := x11.below hbA x11.lt
    have r0 := (r0.below hbA).wide hbA.size
    have r1 := (r1.below hbA).wide hbA.size
    have r5 := (r5.below hbA).wide hbA.size
    have r6 := (r6.below hbA).wide hbA.size
    have q7 := (q7.below hbA).wide hbA.size
    have q9 := (q9.below hbA).wide hbA.size
    have q11 := (q11.below hbA).wide hbA.size
    have q13 := (q13.below hbA).wide hbA.size
    have hbel := hbel.trans (hbA.mono hbel.size)
    obtain ⟨b_x13, hb_x13⟩ : ∃ b, b = w9.heap.size := ⟨_, rfl⟩
    rw [← hb_x13] at x13N
    have HB_x13 := Lib.hid hb_x13
    have x13 := x13N
    clear hbA x13N hb_x13
    clear c_x0_0 c_x0_1 c_x1_0 c_x1_1 c_x5_0 c_x5_1 c_x6_0 c_x6_1 c_x7_0 c_x7_1 c_x9_0 c_x9_1 c_x11_0 c_x11_1
    obtain ⟨c_x0_0, c_x0_1⟩ := x0.cell
    obtain ⟨c_x1_0, c_x1_1⟩ := x1.cell
    obtain ⟨c_x5_0, c_x5_1⟩ := x5.cell
    obtain ⟨c_x6_0, c_x6_1⟩ := x6.cell
    obtain ⟨c_x7_0, c_x7_1⟩ := x7.cell
    obtain ⟨c_x9_0, c_x9_1⟩ := x9.cell
    obtain ⟨c_x11_0, c_x11_1⟩ := x11.cell
    obtain ⟨c_x13_0, c_x13_1⟩ := x13.cell
    go_wp2_with fail
    generalize (w9.alloc (.cells #[.int .i64 (n : Int), .slice A13 n1 c13] 26)) = w10 at *
    rw [← HB_x13.out]
    refine (CJ1.out _ _ _ _ _ r0 r1).mono ?_
    rintro e w11 ⟨A15, c15, rfl, q15, hb⟩
    have x0 := x0.below hb x0.lt
    have x1 := x1.below hb x1.lt
    have x5 := x5.below hb x5.lt
    have x6 := x6.below hb x6.lt
    have x7 := x7.below hb x7.lt
    have x9 := x9.below hb x9.lt
    have x11 := x11.below hb x11.lt
    have x13 := x13.below hb x13.lt
    have r0 := (r0.below hb).wide hb.size
    have r1 := (r1.below hb).wide hb.size
    have r5 := (r5.below hb).wide hb.size
    have r6 := (r6.below hb).wide hb.size
    have q7 := (q7.below hb).wide hb.size
    have q9 := (q9.below hb).wide hb.size
    have q11 := (q11.below hb).wide hb.size
    have q13 := (q13.below hb).wide hb.size
    have hbel := hbel.trans (hb.mono hbel.size)
    clear hb
    have hbA : Below w11.heap.size w11 (w11.alloc (.cells #[.int .i64 (n : Int), .slice A15 n1 c15] 26)) := (Below.refl _ _).alloc (Nat.le_refl _) _
    have x15N := RBox.new w11 (n : Int) A15 n1 c15
    have x0 := x0.below hbA x0.lt
    have x1 := x1.below hbA x1.lt
    have x5 := x5.below hbA x5.lt
    have x6 := x6.below hbA x6.lt
    have x7 := x7.below hbA x7.lt
    have x9 := x9.below hbA x9.lt
    have x11 := x11.below hbA x11.lt
    have x13 := x13.below hbA x13.lt
    have r0 := (r0.below hbA).wide hbA.size
    have r1 := (r1.below hbA).wide hbA.size
    have r5 := (r5.below hbA).wide hbA.size
    have r6 := (r6.below hbA).wide hbA.size
    have q7 := (q7.below hbA).wide hbA.size
    have q9 := (q9.below hbA).wide hbA.size
    have q11 := (q11.below hbA).wide hbA.size
    have q13 := (q13.below hbA).wide hbA.size
    have q15 := (q15.below hbA).wide hbA.size
    have hbel := hbel.trans (hbA.mono hbel.size)
    obtain ⟨b_x15, hb_x15⟩ : ∃ b, b = w11.heap.size := ⟨_, rfl⟩
    rw [← hb_x15] at x15N
    have HB_x15 := Lib.hid hb_x15
    have x15 := x15N
    clear hbA x15N hb_x15
    clear c_x0_0 c_x0_1 c_x1_0 c_x1_1 c_x5_0 c_x5_1 c_x6_0 c_x6_1 c_x7_0 c_x7_1 c_x9_0 c_x9_1 c_x11_0 c_x11_1 c_x13_0 c_x13_1
    obtain ⟨c_x0_0, c_x0_1⟩ := x0.cell
    obtain ⟨c_x1_0, c_x1_1⟩ := x1.cell
    obtain ⟨c_x5_0, c_x5_1⟩ := x5.cell
    obtain ⟨c_x6_0, c_x6_1⟩ := x6.cell
    obtain ⟨c_x7_0, c_x7_1⟩ := x7.cell
    obtain ⟨c_x9_0, c_x9_1⟩ := x9.cell
    obtain ⟨c_x11_0, c_x11_1⟩ := x11.cell
    obtain ⟨c_x13_0, c_x13_1⟩ := x13.cell
    obtain ⟨c_x15_0, c_x15_1⟩ := x15.cell
    go_wp2_with fail
    generalize (w11.alloc (.cells #[.int .i64 (n : Int), .slice A15 n1 c15] 26)) = w12 at *
    rw [← HB_x15.out]
    refine (CJ2.out _ _ _ _ _ r0 r1).mono ?_
    rintro e w13 ⟨A17, c17, rfl, q17, hb⟩
    have x0 := x0.below hb x0.lt
    have x1 := x1.below hb x1.lt
    have x5 := x5.below hb x5.lt
    have x6 := x6.below hb x6.lt
    have x7 := x7.below hb x7.lt
    have x9 := x9.below hb x9.lt
    have x11 := x11.below hb x11.lt
    have x13 := x13.below hb x13.lt
    have x15 := x15.below hb x15.lt
    have r0 := (r0.below hb).wide hb.size
    have r1 := (r1.below hb).wide hb.size
    have r5 := (r5.below hb).wide hb.size
    have r6 := (r6.below hb).wide hb.size
    have q7 := (q7.below hb).wide hb.size
    have q9 := (q9.below hb).wide hb.size
    have q11 := (q11.below hb).wide hb.size
    have q13 := (q13.below hb).wide hb.size
    have q15 := (q15.below hb).wide hb.size
    have hbel := hbel.trans (hb.mono hbel.size)
    clear hb
    have hbA : Below w13.heap.size w13 (w13.alloc (.cells #[.int .i64 (n : Int), .slice A17 n1 c17] 26)) := (Below.refl _ _).alloc (Nat.le_refl _) _
    have x17N := RBox.new w13 (n : Int) A17 n1 c17
    have x0 := x0.below hbA x0.lt
    have x1 := x1.below hbA x1.lt
    have x5 := x5.below hbA x5.lt
    have x6 := x6.below hbA x6.lt
    have x7 := x7.below hbA x7.lt
    have x9 := x9.below hbA x9.lt
    have x11 := x11.below hbA x11.lt
    have x13 := x13.below hbA x13.lt
    have x15 := x15.below hbA x15.lt
    have r0 := (r0.below hbA).wide hbA.size
    have r1 := (r1.below hbA).wide hbA.size
    have r5 := (r5.below hbA).wide hbA.size
    have r6 := (r6.below hbA).wide hbA.size
    have q7 := (q7.below hbA).wide hbA.size
    have q9 := (q9.below hbA).wide hbA.size
    have q11 := (q11.below hbA).wide hbA.size
    have q13 := (q13.below hbA).wide hbA.size
    have q15 := (q15.below hbA).wide hbA.size
    have q17 := (q17.below hbA).wide hbA.size
    have hbel := hbel.trans (hbA.mono hbel.size)
    obtain ⟨b_x17, hb_x17⟩ : ∃ b, b = w13.heap.size := ⟨_, rfl⟩
    rw [← hb_x17] at x17N
    have HB_x17 := Lib.hid hb_x17
    have x17 := x17N
    clear hbA x17N hb_x17
    clear c_x0_0 c_x0_1 c_x1_0 c_x1_1 c_x5_0 c_x5_1 c_x6_0 c_x6_1 c_x7_0 c_x7_1 c_x9_0 c_x9_1 c_x11_0 c_x11_1 c_x13_0 c_x13_1 c_x15_0 c_x15_1
    obtain ⟨c_x0_0, c_x0_1⟩ := x0.cell
    obtain ⟨c_x1_0, c_x1_1⟩ := x1.cell
    obtain ⟨c_x5_0, c_x5_1⟩ := x5.cell
    obtain ⟨c_x6_0, c_x6_1⟩ := x6.cell
    obtain ⟨c_x7_0, c_x7_1⟩ := x7.cell
    obtain ⟨c_x9_0, c_x9_1⟩ := x9.cell
    obtain ⟨c_x11_0, c_x11_1⟩ := x11.cell
    obtain ⟨c_x13_0, c_x13_1⟩ := x13.cell
    obtain ⟨c_x15_0, c_x15_1⟩ := x15.cell
    obtain ⟨c_x17_0, c_x17_1⟩ := x17.cell
    go_wp2_with fail
    generalize (w13.alloc (.cells #[.int .i64 (n : Int), .slice A17 n1 c17] 26)) = w14 at *
    rw [← HB_x17.out]
    refine (CS.out p0 HZ.out.1 _ _ _ _ _ q7 q13).mono ?_
    rintro e w15 ⟨rfl, hb⟩
    have x0 := x0.below hb x0.lt
    have x1 := x1.below hb x1.lt
    have x5 := x5.below hb x5.lt
    have x6 := x6.below hb x6.lt
    have x7 := x7.below hb x7.lt
    have x9 := x9.below hb x9.lt
    have x11 := x11.below hb x11.lt
    have x13 := x13.below hb x13.lt
    have x15 := x15.below hb x15.lt
    have x17 := x17.below hb x17.lt
    have r0 := (r0.below hb).wide hb.size
    have r1 := (r1.below hb).wide hb.size
    have r5 := (r5.below hb).wide hb.size
    have r6 := (r6.below hb).wide hb.size
    have q7 := (q7.below hb).wide hb.size
    have q9 := (q9.below hb).wide hb.size
    have q11 := (q11.below hb).wide hb.size
    have q13 := (q13.below hb).wide hb.size
    have q15 := (q15.below hb).wide hb.size
    have q17 := (q17.below hb).wide hb.size
    have hbel := hbel.trans (hb.mono hbel.size)
    clear hb
    clear c_x0_0 c_x0_1 c_x1_0 c_x1_1 c_x5_0 c_x5_1 c_x6_0 c_x6_1 c_x7_0 c_x7_1 c_x9_0 c_x9_1 c_x11_0 c_x11_1 c_x13_0 c_x13_1 c_x15_0 c_x15_1 c_x17_0 c_x17_1
    obtain ⟨c_x0_0, c_x0_1⟩ := x0.cell
    obtain ⟨c_x1_0, c_x1_1⟩ := x1.cell
    obtain ⟨c_x5_0, c_x5_1⟩ := x5.cell
    obtain ⟨c_x6_0, c_x6_1⟩ := x6.cell
    obtain ⟨c_x7_0, c_x7_1⟩ := x7.cell
    obtain ⟨c_x9_0, c_x9_1⟩ := x9.cell
    obtain ⟨c_x11_0, c_x11_1⟩ := x11.cell
    obtain ⟨c_x13_0, c_x13_1⟩ := x13.cell
    obtain ⟨c_x15_0, c_x15_1⟩ := x15.cell
    obtain ⟨c_x17_0, c_x17_1⟩ := x17.cell
    go_wp2_with fail
    refine (CS.out p1 HZ.out.2.1 _ _ _ _ _ q9 q15).mono ?_
    rintro e w16 ⟨rfl, hb⟩
    have x0 := x0.below hb x0.lt
    have x1 := x1.below hb x1.lt
    have x5 := x5.below hb x5.lt
    have x6 := x6.below hb x6.lt
    have x7 := x7.below hb x7.lt
    have x9 := x9.below hb x9.lt
    have x11 := x11.below hb x11.lt
    have x13 := x13.below hb x13.lt
    have x15 := x15.below hb x15.lt
    have x17 := x17.below hb x17.lt
    have r0 := (r0.below hb).wide hb.size
    have r1 := (r1.below hb).wide hb.size
    have r5 := (r5.below hb).wide hb.size
    have r6 := (r6.below hb).wide hb.size
    have q7 := (q7.below hb).wide hb.size
    have q9 := (q9.below hb).wide hb.size
    have q11 := (q11.below hb).wide hb.size
    have q13 := (q13.below hb).wide hb.size
    have q15 := (q15.below hb).wide hb.size
    have q17 := (q17.below hb).wide hb.size
    have hbel := hbel.trans (hb.mono hbel.size)
    clear hb
    clear c_x0_0 c_x0_1 c_x1_0 c_x1_1 c_x5_0 c_x5_1 c_x6_0 c_x6_1 c_x7_0 c_x7_1 c_x9_0 c_x9_1 c_x11_0 c_x11_1 c_x13_0 c_x13_1 c_x15_0 c_x15_1 c_x17_0 c_x17_1
    obtain ⟨c_x0_0, c_x0_1⟩ := x0.cell
    obtain ⟨c_x1_0, c_x1_1⟩ := x1.cell
    obtain ⟨c_x5_0, c_x5_1⟩ := x5.cell
    obtain ⟨c_x6_0, c_x6_1⟩ := x6.cell
    obtain ⟨c_x7_0, c_x7_1⟩ := x7.cell
    obtain ⟨c_x9_0, c_x9_1⟩ := x9.cell
    obtain ⟨c_x11_0, c_x11_1⟩ := x11.cell
    obtain ⟨c_x13_0, c_x13_1⟩ := x13.cell
    obtain ⟨c_x15_0, c_x15_1⟩ := x15.cell
    obtain ⟨c_x17_0, c_x17_1⟩ := x17.cell
    go_wp2_with fail
    refine (CS.out p2 HZ.out.2.2 _ _ _ _ _ q11 q17).mono ?_
    rintro e w17 ⟨rfl, hb⟩
    have x0 := x0.below hb x0.lt
    have x1 := x1.below hb x1.lt
    have x5 := x5.below hb x5.lt
    have x6 := x6.below hb x6.lt
    have x7 := x7.below hb x7.lt
    have x9 := x9.below hb x9.lt
    have x11 := x11.below hb x11.lt
    have x13 := x13.below hb x13.lt
    have x15 := x15.below hb x15.lt
    have x17 := x17.below hb x17.lt
    have r0 := (r0.below hb).wide hb.size
    have r1 := (r1.below hb).wide hb.size
    have r5 := (r5.below hb).wide hb.size
    have r6 := (r6.below hb).wide hb.size
    have q7 := (q7.below hb).wide hb.size
    have q9 := (q9.below hb).wide hb.size
    have q11 := (q11.below hb).wide hb.size
    have q13 := (q13.below hb).wide hb.size
    have q15 := (q15.below hb).wide hb.size
    have q17 := (q17.below hb).wide hb.size
    have hbel := hbel.trans (hb.mono hbel.size)
    clear hb
    clear c_x0_0 c_x0_1 c_x1_0 c_x1_1 c_x5_0 c_x5_1 c_x6_0 c_x6_1 c_x7_0 c_x7_1 c_x9_0 c_x9_1 c_x11_0 c_x11_1 c_x13_0 c_x13_1 c_x15_0 c_x15_1 c_x17_0 c_x17_1
    obtain ⟨c_x0_0, c_x0_1⟩ := x0.cell
    obtain ⟨c_x1_0, c_x1_1⟩ := x1.cell
    obtain ⟨c_x5_0, c_x5_1⟩ := x5.cell
    obtain ⟨c_x6_0, c_x6_1⟩ := x6.cell
    obtain ⟨c_x7_0, c_x7_1⟩ := x7.cell
    obtain ⟨c_x9_0, c_x9_1⟩ := x9.cell
    obtain ⟨c_x11_0, c_x11_1⟩ := x11.cell
    obtain ⟨c_x13_0, c_x13_1⟩ := x13.cell
    obtain ⟨c_x15_0, c_x15_1⟩ := x15.cell
    obtain ⟨c_x17_0, c_x17_1⟩ := x17.cell
    go_wp2_with fail
    refine (CS.out x HX.out _ _ _ _ _ r5 r0).mono ?_
    rintro e w18 ⟨rfl, hb⟩
    have x0 := x0.below hb x0.lt
    have x1 := x1.below hb x1.lt
    have x5 := x5.below hb x5.lt
    have x6 := x6.below hb x6.lt
    have x7 := x7.below hb x7.lt
    have x9 := x9.below hb x9.lt
    have x11 := x11.below hb x11.lt
    have x13 := x13.below hb x13.lt
    have x15 := x15.below hb x15.lt
    have x17 := x17.below hb x17.lt
    have r0 := (r0.below hb).wide hb.size
    have r1 := (r1.below hb).wide hb.size
    have r5 := (r5.below hb).wide hb.size
    have r6 := (r6.below hb).wide hb.size
    have q7 := (q7.below hb).wide hb.size
    have q9 := (q9.below hb).wide hb.size
    have q11 := (q11.below hb).wide hb.size
    have q13 := (q13.below hb).wide hb.size
    have q15 := (q15.below hb).wide hb.size
    have q17 := (q17.below hb).wide hb.size
    have hbel := hbel.trans (hb.mono hbel.size)
    clear hb
    clear c_x0_0 c_x0_1 c_x1_0 c_x1_1 c_x5_0 c_x5_1 c_x6_0 c_x6_1 c_x7_0 c_x7_1 c_x9_0 c_x9_1 c_x11_0 c_x11_1 c_x13_0 c_x13_1 c_x15_0 c_x15_1 c_x17_0 c_x17_1
    obtain ⟨c_x0_0, c_x0_1⟩ := x0.cell
    obtain ⟨c_x1_0, c_x1_1⟩ := x1.cell
    obtain ⟨c_x5_0, c_x5_1⟩ := x5.cell
    obtain ⟨c_x6_0, c_x6_1⟩ := x6.cell
    obtain ⟨c_x7_0, c_x7_1⟩ := x7.cell
    obtain ⟨c_x9_0, c_x9_1⟩ := x9.cell
    obtain ⟨c_x11_0, c_x11_1⟩ := x11.cell
    obtain ⟨c_x13_0, c_x13_1⟩ := x13.cell
    obtain ⟨c_x15_0, c_x15_1⟩ := x15.cell
    obtain ⟨c_x17_0, c_x17_1⟩ := x17.cell
    go_wp2_with fail
    refine (CS.out y HY.out _ _ _ _ _ r6 r1).mono ?_
    rintro e w19 ⟨rfl, hb⟩
    have x0 := x0.below hb x0.lt
    have x1 := x1.below hb x1.lt
    have x5 := x5.below hb x5.lt
    have x6 := x6.below hb x6.lt
    have x7 := x7.below hb x7.lt
    have x9 := x9.below hb x9.lt
    have x11 := x11.below hb x11.lt
    have x13 := x13.below hb x13.lt
    have x15 := x15.below hb x15.lt
    have x17 := x17.below hb x17.lt
    have r0 := (r0.below hb).wide hb.size
    have r1 := (r1.below hb).wide hb.size
    have r5 := (r5.below hb).wide hb.size
    have r6 := (r6.below hb).wide hb.size
    have q7 := (q7.below hb).wide hb.size
    have q9 := (q9.below hb).wide hb.size
    have q11 := (q11.below hb).wide hb.size
    have q13 := (q13.below hb).wide hb.size
    have q15 := (q15.below hb).wide hb.size
    have q17 := (q17.below hb).wide hb.size
    have hbel := hbel.trans (hb.mono hbel.size)
    clear hb
    clear c_x0_0 c_x0_1 c_x1_0 c_x1_1 c_x5_0 c_x5_1 c_x6_0 c_x6_1 c_x7_0 c_x7_1 c_x9_0 c_x9_1 c_x11_0 c_x11_1 c_x13_0 c_x13_1 c_x15_0 c_x15_1 c_x17_0 c_x17_1
    go_wp2
    go_ret
    exact ⟨rfl, hbel⟩
/-- from the walk to the post of the row -/
theorem contract (H : Type) (enc : TypeId × Value → H) (W : World) (base : Nat) (args : Array Value) (ds gs : List (DataW H)) (before : List MemPlace)
    (hval : ∀ (j : Nat) t v, Try.f4.params[j]? = some t → args[j]? = some v → Value.okWide Try.prog W .any base t v)
    (hW : DataW.Whole enc Try.prog Try.f4.params.toList Rows.rowsetJoinsSpec.vars false W args.toList ds gs before) (_ : laidMetH Try.prog Rows.rowsetJoinsRow.laid W)
    (hsz0 : (DataW.weightsEach Try.prog (Try.f4.params.toList ++ Rows.rowsetJoinsSpec.plain.varTypes Try.prog) (ds ++ gs)).all (· ≤ reachBytes) = true) :
    Calls Try.prog 4 args W fun e W' => ∃ v, e = .returned v ∧ Rows.rowsetJoinsSpec.post enc Try.prog Try.f4 false true false false W args v W' := by
  have hW' := hW
  obtain ⟨p, q, hA0, hV, rfl, hfz, hnd⟩ := hW
  have hA : DataW.TrodAll enc Try.prog W 0 (fun _ => true) true Try.f4.params.toList args.toList ds p := hA0
  rw [Try.params4] at hA hval hsz0
  obtain ⟨v0, vs0, d0, ds0, p0, q0, hargs, rfl, rfl, h0, r0⟩ := trodAll_cons hA
  obtain ⟨v1, vs1, d1, ds1, p1, q1, rfl, rfl, rfl, h1, r1⟩ := trodAll_cons r0
  obtain ⟨rfl, rfl, rfl⟩ := trodAll_nil r1
  obtain rfl : args = #[v0, v1] := by cases args; simp_all
  obtain ⟨rfl, rfl⟩ := trodVars_none hV
  have lt0 : ∀ x ∈ p0, x.block < W.heap.size := by obtain ⟨m, hm⟩ := h0; exact DataW.trod_lt m _ _ _ hm
  obtain ⟨N0, a0, len0, cap0, l0, rfl, na0, nb0, e0, ec0, b0, dd0, de0, k0⟩ := open_rows (hval 0 26 v0 rfl rfl) h0
  have reach0 := reach_rows hsz0 (j := 0) rfl rfl de0 k0
  have lt1 : ∀ x ∈ p1, x.block < W.heap.size := by obtain ⟨m, hm⟩ := h1; exact DataW.trod_lt m _ _ _ hm
  obtain ⟨N1, a1, len1, cap1, l1, rfl, na1, nb1, e1, ec1, b1, dd1, de1, k1⟩ := open_rows (hval 1 26 v1 rfl rfl) h1
  have reach1 := reach_rows hsz0 (j := 1) rfl rfl de1 k1
  clear hA0
  refine (walk N0 a0 len0 cap0 l0 N1 a1 len1 cap1 l1 W na0 nb0 e0 ec0 reach0 b0 na1 nb1 e1 ec1 reach1 b1).mono fun e W' ⟨he, bel⟩ => ?_
  subst he
  exact ⟨_, rfl, _, _, _, [], _, [], hW', trodAll_mk1 (shut_bool Try.underlying4 _), (trodAll_cons_mk (Below.trod laidOut (by kernel_rfl) (of_decide_eq_true (by kernel_rfl)) h0 bel lt0) (trodAll_cons_mk (Below.trod laidOut (by kernel_rfl) (of_decide_eq_true (by kernel_rfl)) h1 bel lt1) trodAll_mk0)), rfl, bel.frame _, fun h => by cases h⟩

theorem laid_met (os : Os) : laidMet Try.prog Rows.rowsetJoinsRow.laid ((World.holding Try.prog os ⟨#[], #[], []⟩).forCall (fun _ _ => 0) ⟨#[], #[.agg #[.int .i64 0, .slice none 0 0], .agg #[.int .i64 0, .slice none 0 0]], []⟩).memory :=
  laidMet_of_run' 8 (by kernel_rfl) (by kernel_rfl)
theorem reads (os : Os) {H : Type} (enc : TypeId × Value → H) : ∃ places, DataW.whole enc Try.prog ((World.holding Try.prog os ⟨#[], #[], []⟩).forCall (fun _ _ => 0) ⟨#[], #[.agg #[.int .i64 0, .slice none 0 0], .agg #[.int .i64 0, .slice none 0 0]], []⟩).memory Try.f4.params.toList Rows.rowsetJoinsSpec.vars false #[Value.agg #[.int .i64 0, .slice none 0 0], .agg #[.int .i64 0, .slice none 0 0]].toList 8 = some ([.agg [.lit (.int .i64 0), .nil], .agg [.lit (.int .i64 0), .nil]], [], places) :=
  ⟨[], by kernel_rfl⟩

set_option maxRecDepth 100000 in
theorem lifted (os : Os) (started : os.Started) (H : Type) (enc : TypeId × Value → H) (F : Stop.Interp) :
    ReturnsInHanded {} Try.checked os 4 .any ((OpenSpec.ofChange Rows.rowsetJoinsSpec).preRow enc Try.prog Try.f4 Rows.rowsetJoinsRow.domain false Rows.rowsetJoinsRow.laid) (((OpenSpec.ofChange Rows.rowsetJoinsSpec).at F).post enc Try.prog Try.f4 false true false false) := by
  obtain ⟨places, hx⟩ := reads os enc
  refine returnsInHanded_of_row (C := Try.checked) (s := OpenSpec.ofChange Rows.rowsetJoinsSpec) own started (by kernel_rfl) Try.func4
    (witness_row_at (enc := enc) (C := Try.checked) false (World.holding Try.prog os ⟨#[], #[], []⟩) #[.agg #[.int .i64 0, .slice none 0 0], .agg #[.int .i64 0, .slice none 0 0]] rfl (by kernel_rfl) (by kernel_rfl) (by kernel_rfl)
      (OpenSpec.preRow_of_cond 8 hx (by kernel_rfl) (fun k hk => by cases hk) (by kernel_rfl) (laid_met os))) ?_
  intro W base args ds gs before hval hW _ _ hsz hL _ _
  exact contract H enc W base args ds gs before hval hW hL hsz

theorem said : Rows.RowsetJoinsSaid :=
  OpenClaim.holds_of_cond 4 Try.f4 rfl rfl rfl rfl rfl rfl rfl ⟨rfl, rfl, rfl, rfl, rfl⟩ rfl rfl rfl rfl rfl (by kernel_rfl) Try.func4 (by kernel_rfl)
    (of_decide_eq_true (by kernel_rfl)) (by unfold Func.isWrapper; first | (rw [if_pos (by decide +kernel)]; kernel_rfl) | (rw [if_neg (by decide +kernel)]; exact ⟨rfl, rfl⟩))
    (fun os started H enc _ F => by rw [OpenClaim.pre_eq_preRow]; exact lifted os started H enc F)

end Go.Proofs.Ytggelnlbdpdegaa.rowsetJoins
