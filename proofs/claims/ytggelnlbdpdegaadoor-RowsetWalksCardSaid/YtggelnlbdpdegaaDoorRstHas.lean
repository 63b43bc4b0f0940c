/- rowset.Has, rowset.Count. -/
import Derived.Test.YtggelnlbdpdegaaDoorRstForm
namespace Go.Proofs.YtggelnlbdpdegaaDoor
open Go.RowKit
set_option maxRecDepth 100000

/-- what stands in a box, behind what made memory -/
theorem box_cells {w w2 : World} {N : Int} {A : Option Addr} {n c : Nat} (h : Below (boxed w N A n c).heap.size (boxed w N A n c) w2) :
    w2.cell? ⟨w.heap.size, 0, none⟩ = some (.int .i64 N) ∧ w2.cell? ⟨w.heap.size, 1, none⟩ = some (.slice A n c) := by
  have hs : w.heap.size < (boxed w N A n c).heap.size := by simp [boxed]
  constructor
  · rw [h.cell (p := ⟨w.heap.size, 0, none⟩) hs]; simp [boxed]
  · rw [h.cell (p := ⟨w.heap.size, 1, none⟩) hs]; simp [boxed]

/-- has a set a row? -/
def hasRow (N : Int) (ws : List UInt64) (i : Int) : Bool := Rst.formed N ws && (decide (0 ≤ i) && (decide (i < N) && Rst.bit ws i.toNat))
set_option maxHeartbeats 400000 in
theorem has_any (N : Int) (A : Option Addr) (n c B : Nat) (ws : List UInt64) (i : Int) (w : World) (hl : ws.length = n) (hn : n ≤ 140737488351232) (hb : Nums w B A ws) (hB : B ≤ w.heap.size) :
    Calls Tryd.prog 11 #[rval N A n c, .int .i64 i] w fun e w' => e = .returned (.bool (hasRow N ws i)) ∧ Below w.heap.size w w' := by
  have hbox := boxed_below w N A n c
  have hbx := hb.below (hbox.mono hB)
  have hsz := hbox.size
  have H1 := Lib.hid (formed_any N A n c B ws (boxed w N A n c) hl hn hbx (by omega))
  have HC := Lib.hid (fun w2 => box_cells (w := w) (w2 := w2) (N := N) (A := A) (n := n) (c := c))
  unfold hasRow
  by_cases hf : Rst.formed N ws = true
  · rw [hf] at H1 ⊢
    rw [Bool.true_and]
    obtain ⟨r0, r1, r2⟩ := Rst.formed_range hf
    by_cases h0 : 0 ≤ i
    · rw [decide_eq_true h0, Bool.true_and]
      by_cases hi : i < N
      · rw [decide_eq_true hi, Bool.true_and]
        obtain ⟨k, rfl⟩ : ∃ k : Nat, i = k := ⟨i.toNat, by omega⟩
        have hj : k / 64 < ws.length := by unfold Rst.need at r2; omega
        obtain ⟨ad, rfl, hadB, hcell⟩ := hbx.get hj
        have hbit := Rst.bit_get hj
        rw [Int.toNat_natCast, hbit]
        have hx : ws[k / 64].toNat < 18446744073709551616 := Rst.u64_lt _
        have hquo : (k : Int) / 64 = ((k / 64 : Nat) : Int) := by omega
        have hrem : (k : Int) % 64 = ((k % 64 : Nat) : Int) := by omega
        have hs64 : k % 64 < 64 := by omega
        have hjn : k / 64 < n := by omega
        simp only [uval] at hcell
        generalize ws[k / 64].toNat = x at *
        have hand : bits .and .u64 ((x : Int) / 2 ^ (k % 64)) 1 = ((x / 2 ^ (k % 64) % 2 : Nat) : Int) := by
          rw [← Rst.and_one]
          exact and_word (m := 1) (by rw [Int.natCast_ediv, Int.natCast_pow]; rfl) (Nat.lt_of_le_of_lt (Nat.div_le_self _ _) hx) (by omega)
        rw [Nat.testBit_eq_decide_div_mod_eq]
        have hk4 : k ≤ 4096 := by omega
        clear hf r0 r1 r2 hj hbit hl h0
        generalize x / 2 ^ (k % 64) % 2 = y at *
        generalize k / 64 = j at *
        generalize k % 64 = s at *
        obtain ⟨X, hX, hX0, hX1⟩ : ∃ X : Int, X = (x : Int) ∧ 0 ≤ X ∧ X ≤ 18446744073709551615 := ⟨x, rfl, by omega, by omega⟩
        rw [← hX] at hcell hand
        clear hX hx hb hbx
        have h0 : (0 : Int) ≤ k := by omega
        unfold boxed at H1 hcell hbox hsz
        unfold rval at H1 ⊢
        go_enter Tryd.func11, Tryd.ntmps11
        go_wp2_with fail
        refine H1.out.mono ?_
        rintro e w2 ⟨rfl, hb2⟩
        obtain ⟨c0, c1⟩ := HC.out w2 hb2
        have hcell2 := (hb2.cell (p := ad.add j) (by rw [addr_add_block]; omega)).trans hcell
        have hbel := hbox.trans (hb2.mono hsz)
        clear H1 HC hb2 hcell hbox
        go_wp2
        go_ret
        exact ⟨congrArg (fun z => Ending.returned (.bool z)) (by rw [Bool.eq_iff_iff]; simp; omega), hbel⟩
      · rw [decide_eq_false hi, Bool.false_and]
        clear hf r0 r1 r2 hb hbx hl
        unfold boxed at H1 hbox hsz
        unfold rval at H1 ⊢
        go_enter Tryd.func11, Tryd.ntmps11
        go_wp2_with fail
        refine H1.out.mono ?_
        rintro e w2 ⟨rfl, hb2⟩
        obtain ⟨c0, c1⟩ := HC.out w2 hb2
        have hbel := hbox.trans (hb2.mono hsz)
        clear H1 HC hb2 hbox
        go_wp2
        go_ret
        exact ⟨rfl, hbel⟩
    · rw [decide_eq_false h0, Bool.false_and]
      clear hf r0 r1 r2 hb hbx hl
      unfold boxed at H1 hbox hsz
      unfold rval at H1 ⊢
      go_enter Tryd.func11, Tryd.ntmps11
      go_wp2_with fail
      refine H1.out.mono ?_
      rintro e w2 ⟨rfl, hb2⟩
      have hbel := hbox.trans (hb2.mono hsz)
      clear H1 HC hb2 hbox
      go_wp2
      go_ret
      exact ⟨rfl, hbel⟩
  · rw [Bool.not_eq_true] at hf
    rw [hf] at H1 ⊢
    rw [Bool.false_and]
    clear hf hb hbx hl
    unfold boxed at H1 hbox hsz
    unfold rval at H1 ⊢
    go_enter Tryd.func11, Tryd.ntmps11
    go_wp2_with fail
    refine H1.out.mono ?_
    rintro e w2 ⟨rfl, hb2⟩
    have hbel := hbox.trans (hb2.mono hsz)
    clear H1 HC hb2 hbox
    go_wp2
    go_ret
    exact ⟨rfl, hbel⟩

/-- how many rows -/
def countRow (N : Int) (ws : List UInt64) : Nat := if Rst.formed N ws = true then Rst.count ws ws.length else 0
set_option maxHeartbeats 400000 in
theorem count_any (N : Int) (A : Option Addr) (n c B : Nat) (ws : List UInt64) (w : World) (hl : ws.length = n) (hn : n ≤ 140737488351232) (hb : Nums w B A ws) (hB : B ≤ w.heap.size) :
    Calls Tryd.prog 12 #[rval N A n c] w fun e w' => e = .returned (.int .i64 (countRow N ws : Int)) ∧ Below w.heap.size w w' := by
  have hbox := boxed_below w N A n c
  have hbx := hb.below (hbox.mono hB)
  have hsz := hbox.size
  have H1 := Lib.hid (formed_any N A n c B ws (boxed w N A n c) hl hn hbx (by omega))
  have HC := Lib.hid (fun w2 => box_cells (w := w) (w2 := w2) (N := N) (A := A) (n := n) (c := c))
  unfold countRow
  by_cases hf : Rst.formed N ws = true
  · rw [if_pos hf]
    rw [hf] at H1
    obtain ⟨r0, r1, r2⟩ := Rst.formed_range hf
    have hn64 : n ≤ 64 := by unfold Rst.need at r2; omega
    have Hl := Lib.hid hl
    rw [hl]
    clear hf r0 r1 r2 hl hb
    unfold boxed at H1 hbox hsz hbx
    unfold rval at H1 ⊢
    go_enter Tryd.func12, Tryd.ntmps12
    go_wp2_with fail
    refine H1.out.mono ?_
    rintro e w2 ⟨rfl, hb2⟩
    obtain ⟨c0, c1⟩ := HC.out w2 hb2
    have hb2x := hbx.below (hb2.mono (by omega))
    have hbel := hbox.trans (hb2.mono hsz)
    clear H1 HC hb2 hbox hbx
    go_wp2
    go_loopw [3, 12] (fun m i wr => ∃ k : Nat, k ≤ n ∧ i = .int .i64 k ∧ m = .int .i64 (Rst.count ws k : Int) ∧ wr = w2) (fun _ i _ => n - (intOf i).toNat)
    case atStart => exact ⟨0, by omega, rfl, rfl, rfl⟩
    case round =>
      obtain ⟨k, hk, rfl, rfl, rfl⟩ := hrel
      by_cases hlt : k < n
      · have hk' : k < ws.length := by have := Hl.out; omega
        obtain ⟨ad, rfl, hadB, hcell⟩ := hb2x.get hk'
        have hx : ws[k].toNat < 18446744073709551616 := Rst.u64_lt _
        obtain ⟨q, HP, Hcs, hpl⟩ : ∃ q : Nat, Hid (∀ W, Calls Tryd.prog 25 #[.int .u64 (ws[k].toNat : Int)] W fun e w' => e = .returned (.int .i64 (q : Int)) ∧ W = w') ∧ Hid (Rst.count ws (k + 1) = Rst.count ws k + q) ∧ q ≤ 64 :=
          ⟨Rst.pops 64 ws[k].toNat, fun (W : World) => onesCount_any ws[k].toNat W hx, Lib.hid (Rst.count_succ hk'), Rst.pops_le _ _⟩
        have hcl := Rst.count_le ws k
        simp only [uval] at hcell
        generalize ws[k].toNat = x at *
        generalize Rst.count ws k = m at *
        obtain ⟨X, hX, hX0, hX1⟩ : ∃ X : Int, X = (x : Int) ∧ 0 ≤ X ∧ X ≤ 18446744073709551615 := ⟨x, rfl, by omega, by omega⟩
        rw [← hX] at hcell HP
        clear hX hx
        go_wp2_with fail
        refine (HP.out _).mono ?_
        rintro e w3 ⟨rfl, rfl⟩
        clear HP
        go_wp2
        go_roundw
        case rel => exact ⟨k + 1, by omega, by go_num, by rw [Hcs.out]; go_num, trivial⟩
        case measure => simp [intOf]; omega
      · obtain rfl : k = n := by omega
        go_wp2
        go_ret
        exact ⟨rfl, hbel⟩
  · rw [if_neg hf]
    rw [Bool.not_eq_true] at hf
    rw [hf] at H1
    clear hf hb hbx hl
    unfold boxed at H1 hbox hsz
    unfold rval at H1 ⊢
    go_enter Tryd.func12, Tryd.ntmps12
    go_wp2_with fail
    refine H1.out.mono ?_
    rintro e w2 ⟨rfl, hb2⟩
    have hbel := hbox.trans (hb2.mono hsz)
    clear H1 HC hb2 hbox
    go_wp2
    go_ret
    exact ⟨rfl, hbel⟩
end Go.Proofs.YtggelnlbdpdegaaDoor
