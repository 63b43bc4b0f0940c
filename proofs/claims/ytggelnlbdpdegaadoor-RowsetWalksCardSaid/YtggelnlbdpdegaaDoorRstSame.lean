/- The document's Same, Ints, Copy. -/
import Derived.Test.YtggelnlbdpdegaaDoorRBox
import Derived.Test.YtggelnlbdpdegaaDoorStepRow
import Derived.Deep.RegionHeld3
namespace Go.Proofs.YtggelnlbdpdegaaDoor
open Go.RowKit
set_option maxRecDepth 100000

theorem take_same {α : Type} {a b : List α} {k : Nat} (ha : k < a.length) (hb : k < b.length) (h : a.take k = b.take k) (he : a[k] = b[k]) : a.take (k + 1) = b.take (k + 1) := by
  rw [List.take_succ_eq_append_getElem ha, List.take_succ_eq_append_getElem hb, h, he]
theorem ne_at {α : Type} {a b : List α} {k : Nat} (ha : k < a.length) (hb : k < b.length) (he : a[k] ≠ b[k]) : a ≠ b := by
  intro h; subst h; exact he rfl

theorem Drawn.row {α : Type} {f : α → Value} {w w' : World} {B : Nat} {A : Option Addr} {l : List α} (hd : Drawn w w') (h : Row f w B A l) : Row f w' B A l := by
  obtain ⟨q, rfl⟩ := hd
  exact h
theorem Drawn.cell {w w' : World} {a : Addr} {v : Value} (hd : Drawn w w') (h : w.cell? a = some v) : w'.cell? a = some v := by
  obtain ⟨q, rfl⟩ := hd
  exact h
set_option maxHeartbeats 400000 in
theorem same_any (N1 N2 : Int) (A1 A2 : Option Addr) (n1 n2 c1 c2 B1 B2 : Nat) (a b : List UInt64) (w : World) (hl1 : a.length = n1) (hl2 : b.length = n2) (hn1 : n1 ≤ 140737488351232) (hn2 : n2 ≤ 140737488351232)
    (ha : Nums w B1 A1 a) (hb : Nums w B2 A2 b) (hB1 : B1 ≤ w.heap.size) (hB2 : B2 ≤ w.heap.size) :
    Calls Tryd.prog 16 #[rval N1 A1 n1 c1, rval N2 A2 n2 c2] w fun e w' => e = .returned (.bool (decide (N1 = N2 ∧ a = b))) ∧ Below w.heap.size w w' := by
  have hbel : Below w.heap.size w ((w.alloc (.cells #[.int .i64 N1, .slice A1 n1 c1] 24)).alloc (.cells #[.int .i64 N2, .slice A2 n2 c2] 24)) := ((Below.refl _ _).alloc (Nat.le_refl _) _).alloc (by simp) _
  have hx1 := (RBox.new w N1 A1 n1 c1).alloc (.cells #[.int .i64 N2, .slice A2 n2 c2] 24)
  have hx2 := RBox.new (w.alloc (.cells #[.int .i64 N1, .slice A1 n1 c1] 24)) N2 A2 n2 c2
  rw [show (w.alloc (.cells #[.int .i64 N1, .slice A1 n1 c1] 24)).heap.size = w.heap.size + 1 by simp] at hx2
  have ha := ha.below (hbel.mono hB1)
  have hb := hb.below (hbel.mono hB2)
  obtain ⟨c10, c11⟩ := hx1.cell
  obtain ⟨c20, c21⟩ := hx2.cell
  clear hx1 hx2
  unfold rval
  by_cases hN : N1 = N2
  · subst hN
    have hnn : (N1 != N1) = false := by simp
    by_cases hn : n1 = n2
    · subst hn
      have hnn2 : ((n1 : Int) != (n1 : Int)) = false := by simp
      have Hl1 := Lib.hid hl1
      have Hl2 := Lib.hid hl2
      generalize hdd : decide (N1 = N1 ∧ a = b) = dd
      have Hdd := Lib.hid hdd
      clear hl1 hl2 hdd
      go_enter Tryd.func16, Tryd.ntmps16
      go_wp2
      generalize (w.alloc (.cells #[.int .i64 N1, .slice A1 n1 c1] 24)).alloc (.cells #[.int .i64 N1, .slice A2 n1 c2] 24) = w1 at *
      go_loopw [5] (fun i wr => ∃ (k : Nat), k ≤ n1 ∧ i = .int .i64 k ∧ a.take k = b.take k ∧ Drawn w1 wr) (fun i _ => n1 - (intOf i).toNat)
      case atStart => exact ⟨0, Nat.zero_le _, rfl, rfl, Drawn.refl _⟩
      case round =>
        obtain ⟨k, hk, rfl, htk, hd⟩ := hrel
        have Htk := Lib.hid htk
        clear htk
        have ha := hd.row ha
        have hb := hd.row hb
        have c10 := hd.cell c10
        have c11 := hd.cell c11
        have c20 := hd.cell c20
        have c21 := hd.cell c21
        by_cases hlt : k < n1
        · have hka : k < a.length := by have := Hl1.out; omega
          have hkb : k < b.length := by have := Hl2.out; omega
          obtain ⟨ad1, rfl, _, d1⟩ := ha.get hka
          obtain ⟨ad2, rfl, _, d2⟩ := hb.get hkb
          simp only [uval] at d1 d2
          have i1 : (k : Int) < (n1 : Int) := by omega
          have i0 : (0 : Int) ≤ (k : Int) := by omega
          by_cases he : a[k] = b[k]
          · have Ht := Lib.hid (take_same hka hkb Htk.out he)
            rw [← he] at d2
            generalize (a[k].toNat : Int) = x at d1 d2
            have hxx : (x != x) = false := by simp
            clear he
            go_wp2_with fail
            go_quiet (fail)
            go_wp2
            go_roundw
            case rel => exact ⟨k + 1, by omega, by go_num, Ht.out, hd.drewN _⟩
            case measure => simp [intOf]; omega
          · have Hn := Lib.hid (ne_at hka hkb he)
            have hne : ((a[k].toNat : Int) != (b[k].toNat : Int)) = true := by
              rw [bne_iff_ne]
              intro e
              exact he (UInt64.toNat_inj.1 (by omega))
            generalize (a[k].toNat : Int) = x at *
            generalize (b[k].toNat : Int) = y at *
            clear he
            go_wp2_with fail
            go_quiet (fail)
            go_wp2
            go_ret
            refine ⟨?_, below_drewN (hbel.trans (hd.below _)) _⟩
            rw [← Hdd.out, decide_eq_false (fun h => Hn.out h.2)]
            rfl
        · obtain rfl : k = n1 := by omega
          have he : a = b := by
            have := Htk.out
            rwa [List.take_of_length_le (by rw [Hl1.out]; exact Nat.le_refl _), List.take_of_length_le (by rw [Hl2.out]; exact Nat.le_refl _)] at this
          have Hd := Lib.hid (show dd = true by rw [← Hdd.out]; simp [he])
          clear he
          go_wp2
          go_ret
          refine ⟨?_, hbel.trans (hd.below _)⟩
          rw [Hd.out]
          rfl
    · have hne : ((n1 : Int) != (n2 : Int)) = true := bne_iff_ne.2 (by omega)
      have hdd : decide (N1 = N1 ∧ a = b) = false := decide_eq_false (fun h => hn (by rw [← hl1, ← hl2, h.2]))
      rw [hdd]
      clear hdd hl1 hl2 hn
      go_enter Tryd.func16, Tryd.ntmps16
      go_wp2
      go_ret
      exact ⟨rfl, hbel⟩
  · have hne : (N1 != N2) = true := by simp [hN]
    rw [decide_eq_false (fun h => hN h.1)]
    clear hN hl1 hl2
    go_enter Tryd.func16, Tryd.ntmps16
    go_wp2
    go_ret
    exact ⟨rfl, hbel⟩

set_option maxHeartbeats 400000 in
theorem ints_any (A1 A2 : Option Addr) (n1 n2 c1 c2 B1 B2 : Nat) (a b : List Int) (w : World) (hl1 : a.length = n1) (hl2 : b.length = n2) (hn1 : n1 ≤ 140737488351232) (hn2 : n2 ≤ 140737488351232) (ha : Ints w B1 A1 a) (hb : Ints w B2 A2 b) :
    Calls Tryd.prog 13 #[.slice A1 n1 c1, .slice A2 n2 c2] w fun e w' => e = .returned (.bool (decide (a = b))) ∧ Drawn w w' := by
  by_cases hn : n1 = n2
  · subst hn
    have hnn2 : ((n1 : Int) != (n1 : Int)) = false := by simp
    have Hl1 := Lib.hid hl1
    have Hl2 := Lib.hid hl2
    generalize hdd : decide (a = b) = dd
    have Hdd := Lib.hid hdd
    clear hl1 hl2 hdd
    go_enter Tryd.func13, Tryd.ntmps13
    go_wp2
    go_loopw [5] (fun i wr => ∃ (k : Nat), k ≤ n1 ∧ i = .int .i64 k ∧ a.take k = b.take k ∧ Drawn w wr) (fun i _ => n1 - (intOf i).toNat)
    case atStart => exact ⟨0, Nat.zero_le _, rfl, rfl, Drawn.refl _⟩
    case round =>
      obtain ⟨k, hk, rfl, htk, hd⟩ := hrel
      have Htk := Lib.hid htk
      clear htk
      have ha := hd.row ha
      have hb := hd.row hb
      by_cases hlt : k < n1
      · have hka : k < a.length := by have := Hl1.out; omega
        have hkb : k < b.length := by have := Hl2.out; omega
        obtain ⟨ad1, rfl, _, d1⟩ := ha.get hka
        obtain ⟨ad2, rfl, _, d2⟩ := hb.get hkb
        simp only [ival] at d1 d2
        have i1 : (k : Int) < (n1 : Int) := by omega
        have i0 : (0 : Int) ≤ (k : Int) := by omega
        by_cases he : a[k] = b[k]
        · have Ht := Lib.hid (take_same hka hkb Htk.out he)
          rw [← he] at d2
          generalize a[k] = x at d1 d2
          have hxx : (x != x) = false := by simp
          clear he
          go_wp2_with fail
          go_quiet (fail)
          go_wp2
          go_roundw
          case rel => exact ⟨k + 1, by omega, by go_num, Ht.out, hd.drewN _⟩
          case measure => simp [intOf]; omega
        · have Hn := Lib.hid (ne_at hka hkb he)
          have hne : (a[k] != b[k]) = true := by
            rw [bne_iff_ne]
            exact he
          generalize a[k] = x at *
          generalize b[k] = y at *
          clear he
          go_wp2_with fail
          go_quiet (fail)
          go_wp2
          go_ret
          refine ⟨?_, hd.drewN _⟩
          rw [← Hdd.out, decide_eq_false (fun h => Hn.out h)]
          rfl
      · obtain rfl : k = n1 := by omega
        have he : a = b := by
          have := Htk.out
          rwa [List.take_of_length_le (by rw [Hl1.out]; exact Nat.le_refl _), List.take_of_length_le (by rw [Hl2.out]; exact Nat.le_refl _)] at this
        have Hd := Lib.hid (show dd = true by rw [← Hdd.out]; exact decide_eq_true he)
        clear he
        go_wp2
        go_ret
        refine ⟨?_, hd⟩
        rw [Hd.out]
        rfl
  · have hne : ((n1 : Int) != (n2 : Int)) = true := bne_iff_ne.2 (by omega)
    have hdd : decide (a = b) = false := decide_eq_false (fun h => hn (by rw [← hl1, ← hl2, h]))
    rw [hdd]
    clear hdd hl1 hl2 hn
    go_enter Tryd.func13, Tryd.ntmps13
    go_wp2
    go_ret
    exact ⟨rfl, Drawn.refl _⟩

theorem cell_far {W : World} {b b' i j : Nat} (h : b ≠ b') (u : Value) : (W.setCell ⟨b', j, none⟩ u).cell? ⟨b, i, none⟩ = W.cell? ⟨b, i, none⟩ :=
  World.cell?_setCell_far W _ _ _ (fun e => h e.symm)
theorem far2 {W : World} {b b' : Nat} {x y : Value} (h : b ≠ b') (h0 : W.cell? ⟨b, 0, none⟩ = some x) (h1 : W.cell? ⟨b, 1, none⟩ = some y) (u v : Value) :
    ((W.setCell ⟨b', 0, none⟩ u).setCell ⟨b', 1, none⟩ v).cell? ⟨b, 0, none⟩ = some x ∧ ((W.setCell ⟨b', 0, none⟩ u).setCell ⟨b', 1, none⟩ v).cell? ⟨b, 1, none⟩ = some y := by
  rw [cell_far h, cell_far h, cell_far h, cell_far h]
  exact ⟨h0, h1⟩
set_option maxHeartbeats 400000 in
theorem copy_any (N : Int) (A : Option Addr) (n c B : Nat) (l : List UInt64) (w : World) (hl : l.length = n) (hn : 8 * n ≤ 140737488351232) (hb : Nums w B A l) (hB : B ≤ w.heap.size) :
    Calls Tryd.prog 7 #[rval N A n c] w fun e w' => ∃ A' c', e = .returned (rval N A' n c') ∧ NOwn w' w.heap.size A' n c' l ∧ Below w.heap.size w w' := by
  have Hl := Lib.hid hl
  have hx1 := (RBox.new w N A n c).alloc (.cells #[.int .i64 0, .slice none 0 0] 24)
  have hx2 := RBox.new (w.alloc (.cells #[.int .i64 N, .slice A n c] 24)) 0 none 0 0
  rw [show (w.alloc (.cells #[.int .i64 N, .slice A n c] 24)).heap.size = w.heap.size + 1 by simp] at hx2
  have hbel : Below w.heap.size w ((w.alloc (.cells #[.int .i64 N, .slice A n c] 24)).alloc (.cells #[.int .i64 0, .slice none 0 0] 24)) := ((Below.refl _ _).alloc (Nat.le_refl _) _).alloc (by simp) _
  have hsz : ((w.alloc (.cells #[.int .i64 N, .slice A n c] 24)).alloc (.cells #[.int .i64 0, .slice none 0 0] 24)).heap.size = w.heap.size + 1 + 1 := by simp
  have hb := hb.below (hbel.mono hB)
  clear hl
  unfold rval
  go_enter Tryd.func7, Tryd.ntmps7
  go_wp2_with fail
  generalize (w.alloc (.cells #[.int .i64 N, .slice A n c] 24)).alloc (.cells #[.int .i64 0, .slice none 0 0] 24) = w1 at *
  have ho1 : NOwn (w1.alloc (.cells #[] 41)) w1.heap.size (some ⟨w1.heap.size, 0, none⟩) 0 0 [] := ROwn.made w1 w1.heap.size #[] 0 (Nat.le_refl _) (by simp only [maxLen]; omega) rfl
  rw [hsz] at ho1
  have hb1 : Nums (w1.alloc (.cells #[] 41)) B A l := hb.below (((Below.refl _ _).alloc (Nat.le_refl _) _).mono (by omega))
  have hx1a := hx1.alloc (.cells #[] 41)
  have hx2a := hx2.alloc (.cells #[] 41)
  have hbela := hbel.alloc (by omega) (.cells #[] 41)
  have hsza : w.heap.size + 1 + 1 ≤ (w1.alloc (.cells #[] 41)).heap.size := by simp; omega
  obtain ⟨c10, c11⟩ := hx1.cell
  obtain ⟨d10, d11⟩ := hx1a.cell
  go_region_held3 (fun w' => w'.cell? ⟨w.heap.size, 0, none⟩ = some (.int .i64 N) ∧ w'.cell? ⟨w.heap.size, 1, none⟩ = some (.slice A n c))
    (first | exact ⟨c10, c11⟩ | exact ⟨d10, d11⟩ | exact ⟨k10, k11⟩ | exact ks _ _)
    (first | (refine step_append_row elem64 (by rfl) (.tmp 5) (.tmp 7) (by rfl) (w.heap.size + 1 + 1) _ 0 0 [] (by rfl) (by exact ho1) B A n c l (by rfl) (by exact Hl.out) (by exact hb1) (by omega) (by simp only [maxLen]; omega) (by exact hsza) ?_
              intro A1 c1 w2 ho2 hg2 hat2
              have hx1b := RBox.grown (by exact hx1a) hg2 (by simp only [blk, Option.map_some]; intro e; injection e with e; omega)
              have hx2b := RBox.grown (by exact hx2a) hg2 (by simp only [blk, Option.map_some]; intro e; injection e with e; omega)
              obtain ⟨k10, k11⟩ := hx1b.cell
              obtain ⟨k20, k21⟩ := hx2b.cell
              have f20 := hx2b.free 0
              have f21 := hx2b.free 1
              have ks := fun u v => far2 (b := w.heap.size) (b' := w.heap.size + 1) (by omega) k10 k11 u v))
  have hg3 : (w1.alloc (.cells #[] 41)).grownBy w2 (some (w.heap.size + 1 + 1)) := ⟨hg2.os, hg2.tape, hg2.output, hg2.size, hg2.block⟩
  have hbelb := hbela.grown hg3 (by omega) (by intro k hk; injection hk with hk; omega)
  rw [Nat.zero_add, List.nil_append] at ho2
  have hone : ∀ u v, NOwn ((w2.setCell ⟨w.heap.size + 1, 0, none⟩ u).setCell ⟨w.heap.size + 1, 1, none⟩ v) w.heap.size A1 n c1 l := fun u v => ((ho2.setFar (by simp) u).setFar (by simp) v).low (by omega)
  go_wp2
  exact bodyPost_ret (v := rval N A1 n c1) (by simp [results, Tryd.results7, go_sem, rval, k20, k21]) rfl
    ⟨A1, c1, rfl, hone _ _, (hbelb.setCell (by simp) _).setCell (by simp) _⟩
end Go.Proofs.YtggelnlbdpdegaaDoor
