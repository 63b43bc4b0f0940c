/- The document's List. -/
import Derived.Test.YtggelnlbdpdegaaDoorRstRefF
import Derived.Test.YtggelnlbdpdegaaDoorRstRows
namespace Go.Proofs.YtggelnlbdpdegaaDoor
open Go.RowKit
set_option maxRecDepth 100000

/-- numbers as integers -/
def asInts (l : List Nat) : List Int := l.map fun (i : Nat) => (i : Int)
/-- a set's rows, or nothing -/
def listR (N : Int) (ws : List UInt64) : List Nat := if Rst.formed N ws = true then Rst.rows ws N.toNat else []
theorem iown_one (w : World) (z : Int) : IOwn (w.alloc (.cells #[.int .i64 z] 3)) w.heap.size (some ⟨w.heap.size, 0, none⟩) 1 1 [z] := by
  have h1 := ROwn.lit (f := ival) (e := 3) w w.heap.size [z] (Nat.le_refl _) (by simp [maxLen])
  exact h1

set_option maxHeartbeats 1000000 in
theorem list_any (N : Int) (A : Option Addr) (n c B : Nat) (ws : List UInt64) (w : World) (hl : ws.length = n) (hn : n ≤ 140737488351232) (hb : Nums w B A ws) (hB : B ≤ w.heap.size) :
    Calls Tryd.prog 8 #[rval N A n c] w fun e w' => ∃ A' m c', e = .returned (.slice A' m c') ∧ IOwn w' w.heap.size A' m c' (asInts (listR N ws)) ∧ Below w.heap.size w w' := by
  have hx1 := RBox.new w N A n c
  have hbel : Below w.heap.size w (w.alloc (.cells #[.int .i64 N, .slice A n c] 24)) := (Below.refl _ _).alloc (Nat.le_refl _) _
  have hsz : (w.alloc (.cells #[.int .i64 N, .slice A n c] 24)).heap.size = w.heap.size + 1 := by simp
  have hb := hb.below (hbel.mono hB)
  have HF := Lib.hid (refFormed_any N A n c B ws _ hl hn hb (by omega))
  unfold listR
  by_cases hf : Rst.formed N ws = true
  · rw [if_pos hf]
    obtain ⟨r0, r1, r2⟩ := Rst.formed_range hf
    obtain ⟨m, rfl⟩ : ∃ m : Nat, N = m := ⟨N.toNat, by omega⟩
    have hm : m ≤ 4096 := by omega
    rw [Int.toNat_natCast] at r2 ⊢
    have hnm : n = Rst.need m := by omega
    have HB := Lib.hid (fun (W : World) hbW hBW => bits_any m A n c B ws W hm hl hnm hbW hBW)
    have Hlen := Lib.hid (Rst.bitsOf_length m ws)
    have Hget := Lib.hid (fun i (h : i < m) => Rst.bitsOf_get (ws := ws) h)
    have Hsn := Lib.hid (fun i => Rst.rows_snoc ws i)
    have Hle := Lib.hid (fun i => Rst.rows_length_le ws i)
    rw [hf] at HF
    clear hf r0 r1 r2 hnm hl
    unfold rval at HF HB ⊢
    go_enter Tryd.func8, Tryd.ntmps8
    go_wp2_with fail
    generalize w.alloc (.cells #[.int .i64 (m : Int), .slice A n c] 24) = w1 at *
    refine HF.out.mono ?_
    rintro e w2 ⟨rfl, hb2⟩
    have hx1 := hx1.below hb2 hx1.lt
    have hb := hb.below (hb2.mono (by omega))
    have hbel := hbel.trans (hb2.mono (by omega))
    have hs2 := hb2.size
    obtain ⟨c10, c11⟩ := hx1.cell
    clear HF hb2
    go_wp2_with fail
    refine (HB.out _ hb (by omega)).mono ?_
    rintro e w3 ⟨g, rfl, ho, hb3⟩
    have hbel := hbel.trans (hb3.mono (by omega))
    have hro := ho.row
    have hs3 := hb3.size
    clear HB ho c10 c11 hx1 hb hb3
    go_wp2
    go_loopw [3, 5] (fun q i wr => ∃ (k p cc : Nat) (A2 : Option Addr), k ≤ m ∧ i = .int .i64 k ∧ q = .slice A2 p cc ∧ IOwn wr w3.heap.size A2 p cc (asInts (Rst.rows ws k)) ∧ Below w3.heap.size w3 wr) (fun _ i _ => m - (intOf i).toNat)
    case atStart => exact ⟨0, 0, 0, none, by omega, rfl, rfl, ROwn.nil _ _ _ _, Below.refl _ _⟩
    case round =>
      obtain ⟨k, p, cc, A2, hk, rfl, rfl, hoq, hbr⟩ := hrel
      by_cases hlt : k < m
      · have hk' : k < (Rst.bitsOf m ws).length := by rw [Hlen.out]; exact hlt
        obtain ⟨ad, had, _, d1⟩ := (hro.below hbr).get hk'
        injection had with had
        subst had
        rw [Hget.out k hlt, show (⟨g, 0, none⟩ : Addr).add k = ⟨g, k, none⟩ from by by_cases h : k = 0 <;> simp [Addr.add, h]] at d1
        simp only [blval] at d1
        have hsn := Hsn.out k
        have hple := Hle.out k
        have hpl := hoq.len
        unfold asInts at hpl
        rw [List.length_map] at hpl
        have hp64 : p ≤ 4096 := by omega
        have hszr := hbr.size
        cases hbit : Rst.bit ws k
        · rw [hbit] at d1
          simp only [hbit, Bool.false_eq_true, if_false] at hsn
          have Hs := Lib.hid hsn
          clear hsn hbit hpl hple
          go_wp2
          go_roundw
          case rel => exact ⟨k + 1, p, cc, A2, by omega, by go_num, rfl, by rw [Hs.out]; exact hoq, hbr⟩
          case measure => simp [intOf]; omega
        · rw [hbit] at d1
          simp only [hbit, if_true] at hsn
          have Hs := Lib.hid hsn
          clear hsn hbit hpl hple
          have hone := (iown_one wr (k : Int)).row
          have hoA := hoq.alloc (.cells #[.int .i64 (k : Int)] 3)
          have hbA : Below w3.heap.size w3 (wr.alloc (.cells #[.int .i64 (k : Int)] 3)) := hbr.alloc hszr _
          have hszA := hbA.size
          clear hoq
          go_wp2_with (at_builtin; refine wpList_append_row elemI rfl (.tmp 21) (.tmp 23) rfl w3.heap.size A2 p cc _ rfl hoA _ _ 1 1 [_] rfl rfl hone (by omega) (by simp only [maxLen]; omega) hszA ?_; intro A3 c3 w4 ho3 hg3 hat3)
          have hb4 := hbA.grown hg3 hszA (fun k hk => (hoA.lt hk).1)
          clear hat3 hg3
          go_roundw
          case rel => exact ⟨k + 1, p + 1, c3, A3, by omega, by go_num, rfl, by rw [Hs.out]; unfold asInts; rw [List.map_append]; exact ho3, hb4⟩
          case measure => simp [intOf]; omega
      · obtain rfl : k = m := by omega
        go_wp2
        go_ret
        exact ⟨A2, p, cc, rfl, hoq.low (by have := hbel.size; omega), hbel.trans (hbr.mono hbel.size)⟩
  · rw [if_neg hf]
    rw [Bool.not_eq_true] at hf
    rw [hf] at HF
    clear hf hl hb
    unfold rval at HF ⊢
    go_enter Tryd.func8, Tryd.ntmps8
    go_wp2_with fail
    refine HF.out.mono ?_
    rintro e w2 ⟨rfl, hb2⟩
    have hbel := hbel.trans (hb2.mono (by omega))
    clear HF hb2 hx1
    go_wp2
    go_ret
    exact ⟨none, 0, 0, rfl, ROwn.nil _ _ _ _, hbel⟩
end Go.Proofs.YtggelnlbdpdegaaDoor
