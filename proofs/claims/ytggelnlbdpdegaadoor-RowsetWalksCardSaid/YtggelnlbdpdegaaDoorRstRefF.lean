/- The document's Formed. -/
import Derived.Test.YtggelnlbdpdegaaDoorRstSet
namespace Go.Proofs.YtggelnlbdpdegaaDoor
open Go.RowKit
set_option maxRecDepth 100000

set_option maxHeartbeats 1000000 in
theorem refFormed_any (N : Int) (A : Option Addr) (n c B : Nat) (ws : List UInt64) (w : World) (hl : ws.length = n) (hn : n ≤ 140737488351232) (hb : Nums w B A ws) (hB : B ≤ w.heap.size) :
    Calls Tryd.prog 10 #[rval N A n c] w fun e w' => e = .returned (.bool (Rst.formed N ws)) ∧ Below w.heap.size w w' := by
  have hx1 := RBox.new w N A n c
  have hbel : Below w.heap.size w (w.alloc (.cells #[.int .i64 N, .slice A n c] 24)) := (Below.refl _ _).alloc (Nat.le_refl _) _
  have hsz : (w.alloc (.cells #[.int .i64 N, .slice A n c] 24)).heap.size = w.heap.size + 1 := by simp
  have hb := hb.below (hbel.mono hB)
  have hf0 := fun h => Rst.formed_not_range (N := N) (ws := ws) h
  by_cases h0 : 0 ≤ N
  · by_cases h1 : N ≤ 4096
    · obtain ⟨m, rfl⟩ : ∃ m : Nat, N = m := ⟨N.toNat, by omega⟩
      have hm : m ≤ 4096 := by omega
      obtain ⟨z, hz⟩ : ∃ z, z = m + 63 := ⟨_, rfl⟩
      have hw1 : IntKind.i64.wrap ((m : Int) + 63) = (z : Int) := by rw [IntKind.wrap_i64]; omega
      have hw2 : IntKind.i64.wrap ((z : Int) / 64) = (Rst.need m : Int) := by
        rw [IntKind.wrap_i64]
        unfold Rst.need
        omega
      have hd1 : decide ((m : Int) ≤ 4096) = true := decide_eq_true h1
      clear hz
      have hk := need_le hm
      by_cases h2 : n = Rst.need m
      · have hfr := Rst.formed_ref hm (hl.trans h2)
        rw [hfr]
        have HB := Lib.hid (fun W hbW hBW => bits_any m A n c B ws W hm hl h2 hbW hBW)
        have hbl := Rst.bitsOf_length m ws
        have HP := Lib.hid (Rst.pack_length (Rst.bitsOf m ws))
        have HS := Lib.hid (fun A2 B2 W hbW hBW => set_any A2 m m B2 (Rst.bitsOf m ws) W hbl hm hbW hBW)
        have hpl : (Rst.pack (Rst.bitsOf m ws)).length = Rst.need m := by rw [Rst.pack_length, hbl]
        have HE := Lib.hid (fun A2 c2 B2 W h1 h2 h3 h4 => same_any (m : Int) (m : Int) A A2 n (Rst.need m) c c2 B B2 ws (Rst.pack (Rst.bitsOf m ws)) W hl hpl hn (by omega) h1 h2 h3 h4)
        have hd : decide (((m : Int) = (m : Int)) ∧ ws = Rst.pack (Rst.bitsOf m ws)) = decide (Rst.pack (Rst.bitsOf m ws) = ws) := by
          rw [decide_eq_decide]
          exact ⟨fun h => h.2.symm, fun h => ⟨rfl, h.symm⟩⟩
        rw [hd] at HE
        generalize decide (Rst.pack (Rst.bitsOf m ws) = ws) = bt at *
        generalize Rst.pack (Rst.bitsOf m ws) = ps at *
        generalize Rst.bitsOf m ws = bs at *
        subst h2
        generalize Rst.need m = k at *
        have hkk : ((k : Int) == (k : Int)) = true := by simp
        obtain ⟨c10, c11⟩ := hx1.cell
        clear hl hf0 hfr h0 h1 hpl hbl hd
        unfold rval at *
        go_enter Tryd.func10, Tryd.ntmps10
        go_wp2_with fail
        generalize w.alloc (.cells #[.int .i64 (m : Int), .slice A k c] 24) = w1 at *
        have hBw1 : B ≤ w1.heap.size := by omega
        go_region_held3 (fun w' => w'.cell? ⟨w.heap.size, 0, none⟩ = some (.int .i64 (m : Int)) ∧ w'.cell? ⟨w.heap.size, 1, none⟩ = some (.slice A k c))
          (first | exact ⟨c10, c11⟩ | exact ⟨k10, k11⟩ | exact ⟨l10, l11⟩ | exact ⟨m10, m11⟩)
          (first | (go_at_call 21
                    refine (HB.out _ (by exact hb) (by exact (show B ≤ w1.heap.size by omega))).mono ?_
                    rintro e w2 ⟨g, rfl, ho2, hb2⟩
                    have hBw2 := Nat.le_trans hBw1 hb2.size
                    have hbb : Nums w2 B A ws := hb.keep (fun p hp => hb2.cell (Nat.lt_of_lt_of_le hp hBw1))
                    have hx1b := RBox.below (by exact hx1) hb2 (by exact (show w.heap.size < w1.heap.size by omega))
                    obtain ⟨k10, k11⟩ := hx1b.cell)
                 | (go_at_call 24
                    refine (HS.out _ _ _ (by exact ho2.row) (by exact Nat.le_refl _)).mono ?_
                    rintro e w3 ⟨A3, c3, rfl, ho3, hb3⟩
                    have hBw3 := Nat.le_trans hBw2 hb3.size
                    have hbc : Nums w3 B A ws := hbb.keep (fun p hp => hb3.cell (Nat.lt_of_lt_of_le hp hBw2))
                    have hx1c := RBox.below (by exact hx1b) hb3 hx1b.lt
                    obtain ⟨l10, l11⟩ := hx1c.cell)
                 | (go_at_call 16
                    refine (HE.out A3 c3 _ _ (by exact hbc) (by exact ho3.row) (by exact hBw3) (by exact Nat.le_refl _)).mono ?_
                    rintro e w4 ⟨rfl, hb4⟩
                    have hx1d := RBox.below (by exact hx1c) hb4 hx1c.lt
                    obtain ⟨m10, m11⟩ := hx1d.cell))
        have hz1 : w.heap.size ≤ w1.heap.size := by omega
        have hz2 : w.heap.size ≤ w2.heap.size := Nat.le_trans hz1 hb2.size
        have hz3 : w.heap.size ≤ w3.heap.size := Nat.le_trans hz2 hb3.size
        have hbe2 : Below w.heap.size w1 w2 := below_of_drew (hb2.mono hz1)
        have hbe4 := ((hbel.trans hbe2).trans (hb3.mono hz2)).trans (hb4.mono hz3)
        go_wp2
        go_ret
        exact ⟨rfl, hbe4⟩
      · rw [hf0 (fun h => h2 (by rw [← hl, h.2.2]; rfl))]
        have hne : ((n : Int) == (Rst.need m : Int)) = false := by simp; omega
        obtain ⟨c10, c11⟩ := hx1.cell
        generalize Rst.need m = k at *
        clear hl hf0 h0 h1 h2 hb
        unfold rval
        go_enter Tryd.func10, Tryd.ntmps10
        go_wp2_with fail
        generalize w.alloc (.cells #[.int .i64 (m : Int), .slice A n c] 24) = w1 at *
        go_quiet (fail)
        go_wp2
        go_ret
        exact ⟨rfl, below_drewN hbel _⟩
    · rw [hf0 (fun h => h1 h.2.1)]
      have hd1 : decide (N ≤ 4096) = false := decide_eq_false h1
      obtain ⟨c10, c11⟩ := hx1.cell
      clear hl hf0 hb
      unfold rval
      go_enter Tryd.func10, Tryd.ntmps10
      go_wp2_with fail
      generalize w.alloc (.cells #[.int .i64 N, .slice A n c] 24) = w1 at *
      go_quiet (fail)
      go_wp2
      go_ret
      exact ⟨rfl, below_drewN hbel _⟩
  · rw [hf0 (fun h => h0 h.1)]
    have hd1 : decide (0 ≤ N) = false := decide_eq_false h0
    obtain ⟨c10, c11⟩ := hx1.cell
    clear hl hf0 hb
    unfold rval
    go_enter Tryd.func10, Tryd.ntmps10
    go_wp2_with fail
    generalize w.alloc (.cells #[.int .i64 N, .slice A n c] 24) = w1 at *
    go_quiet (fail)
    go_wp2
    go_ret
    exact ⟨rfl, below_drewN hbel _⟩
end Go.Proofs.YtggelnlbdpdegaaDoor
