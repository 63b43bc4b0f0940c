/- rowset.isSize, wordCount, granuleCount, empty, add; a set as a value, and what functions that make one leave. -/
import Derived.Test.YtggelnlbdpdegaaDoorIntsB
import Derived.Test.YtggelnlbdpdegaaDoorBools
import Derived.Test.YtggelnlbdpdegaaDoorRst
import Derived.Laws.BitsAllLaws
import Derived.WalkSpells
import Derived.WalkLawsBesides
import Derived.Lib.BufferOwn
namespace Go.Proofs.YtggelnlbdpdegaaDoor
open Go.RowKit
set_option maxRecDepth 100000

/-- a set as a value -/
def rval (N : Int) (A : Option Addr) (n c : Nat) : Value := .agg #[.int .i64 N, .slice A n c]
/-- what a function that makes a set leaves: words of its own, and the error -/
def SetPost (w : World) (r : (Int × List UInt64) × Nat) (e : Ending) (w' : World) : Prop :=
  ∃ A c, e = .returned (.tuple #[rval r.1.1 A r.1.2.length c, .int .i64 (r.2 : Int)]) ∧ NOwn w' w.heap.size A r.1.2.length c r.1.2 ∧ Below w.heap.size w w'
/-- the refusal -/
def noSet : (Int × List UInt64) × Nat := ((0, []), 1)
theorem nown_none (w : World) (base : Nat) : NOwn w base none 0 0 [] := ROwn.nil _ _ w base

theorem isSize_any (z : Int) (w : World) : Calls Tryd.prog 22 #[.int .i64 z] w fun e w' => e = .returned (.bool (decide (0 ≤ z ∧ z ≤ 4096))) ∧ w = w' := by
  by_cases h1 : 0 ≤ z
  · by_cases h2 : z ≤ 4096
    · rw [decide_eq_true ⟨h1, h2⟩]
      go_enter Tryd.func22, Tryd.ntmps22
      go_wp2
      go_ret
      exact ⟨rfl, rfl⟩
    · rw [decide_eq_false (fun h => h2 h.2)]
      go_enter Tryd.func22, Tryd.ntmps22
      go_wp2
      go_ret
      exact ⟨rfl, rfl⟩
  · rw [decide_eq_false (fun h => h1 h.1)]
    go_enter Tryd.func22, Tryd.ntmps22
    go_wp2
    go_ret
    exact ⟨rfl, rfl⟩
theorem wordCount_any (n : Nat) (w : World) (hn : n ≤ 4096) : Calls Tryd.prog 23 #[.int .i64 (n : Int)] w fun e w' => e = .returned (.int .i64 (Rst.need n : Int)) ∧ w = w' := by
  have hs : (Rst.need n : Int) = ((n : Int) + 63) / 64 := by unfold Rst.need; omega
  go_enter Tryd.func23, Tryd.ntmps23
  go_wp2
  go_ret
  exact ⟨congrArg (fun z => Ending.returned (.int .i64 z)) (by omega), rfl⟩
theorem granuleCount_any (n : Nat) (w : World) (hn : n ≤ 4096) : Calls Tryd.prog 30 #[.int .i64 (n : Int)] w fun e w' => e = .returned (.int .i64 (((n + 15) / 16 : Nat) : Int)) ∧ w = w' := by
  go_enter Tryd.func30, Tryd.ntmps30
  go_wp2
  go_ret
  exact ⟨congrArg (fun z => Ending.returned (.int .i64 z)) (by omega), rfl⟩
theorem need_le {n : Nat} (h : n ≤ 4096) : Rst.need n ≤ 64 := by unfold Rst.need; omega

theorem empty_any (n : Nat) (w : World) (hn : n ≤ 4096) : Calls Tryd.prog 29 #[.int .i64 (n : Int)] w fun e w' =>
    ∃ g, e = .returned (rval (n : Int) (some ⟨g, 0, none⟩) (Rst.need n) (Rst.need n)) ∧ NOwn w' w.heap.size (some ⟨g, 0, none⟩) (Rst.need n) (Rst.need n) (List.replicate (Rst.need n) 0) ∧ Below w.heap.size w w' := by
  have H := Lib.hid (fun W => wordCount_any n W hn)
  have hle := need_le hn
  generalize Rst.need n = k at *
  have hmk := run_make_nums k (by omega)
  clear hn
  go_enter Tryd.func29, Tryd.ntmps29
  go_wp2_with fail
  refine (H.out _).mono ?_
  rintro e w1 ⟨rfl, rfl⟩
  clear H
  go_wp2
  have ho := (own_nums (w.alloc (.cells #[.int .i64 (n : Int), .slice (some ⟨w.heap.size + 1, 0, none⟩) k k] 24)) k (by simp only [maxLen]; omega)).low (b' := w.heap.size) (by simp)
  rw [show (w.alloc (.cells #[.int .i64 (n : Int), .slice (some ⟨w.heap.size + 1, 0, none⟩) k k] 24)).heap.size = w.heap.size + 1 by simp] at ho
  exact bodyPost_ret (v := rval (n : Int) (some ⟨w.heap.size + 1, 0, none⟩) k k) (by simp [results, Tryd.results29, go_sem, rval]) rfl
    ⟨_, rfl, ho, ((Below.refl _ _).alloc (Nat.le_refl _) _).alloc (by simp) _⟩

theorem grown_drew {w w' : World} {row : Option Nat} (h : w.grownBy w' row) : w.grownBy w'.drew row := ⟨h.os, h.tape, h.output, h.size, h.block⟩
/-- the word that a row is put into -/
theorem or_word {x s : Nat} (hx : x < 18446744073709551616) (hs : s < 64) : bits .or .u64 (x : Int) (IntKind.u64.wrap (2 ^ s)) = ((x ||| 2 ^ s : Nat) : Int) := by
  have hp : 2 ^ s < 18446744073709551616 := Nat.lt_of_lt_of_le (Nat.pow_lt_pow_right (by omega) hs) (by decide)
  have e : IntKind.u64.wrap (2 ^ s) = ((2 ^ s : Nat) : Int) := by
    have h2 : (2 : Int) ^ s = ((2 ^ s : Nat) : Int) := by rw [Int.natCast_pow]; rfl
    rw [h2, IntKind.wrap_u64]
    generalize 2 ^ s = P at *
    omega
  rw [e, u64_or_nat x _ hx hp]
theorem uval_ofNat {x : Nat} (h : x < 18446744073709551616) : uval (UInt64.ofNat x) = .int .u64 (x : Int) := by
  unfold uval
  rw [Rst.u64_ofNat h]
set_option maxHeartbeats 400000 in
theorem add_any (N : Int) (g n c base r : Nat) (l : List Bool) (w : World) (hown : NOwn w base (some ⟨g, 0, none⟩) n c (Rst.pack l)) (hr : r < l.length) (hl : l.length ≤ 4096) :
    Calls Tryd.prog 31 #[rval N (some ⟨g, 0, none⟩) n c, .int .i64 (r : Int)] w fun e w' =>
      e = .returned (.tuple #[]) ∧ NOwn w' base (some ⟨g, 0, none⟩) n c (Rst.pack (l.set r true)) ∧ w.grownBy w' (some g) := by
  have hsz := hown.size
  have hlen := hown.len
  have hadd := Rst.add_row hr
  have hj : r / 64 < (Rst.pack l).length := by rw [Rst.pack_length]; unfold Rst.need; omega
  have hjn : r / 64 < n := by omega
  have ho1 := hown.alloc (.cells #[.int .i64 N, .slice (some ⟨g, 0, none⟩) n c] 24)
  have hb1 : w.grownBy (w.alloc (.cells #[.int .i64 N, .slice (some ⟨g, 0, none⟩) n c] 24)) (some g) := World.grownBy_alloc _ _ _
  have hcell := ho1.cell hj
  have hfree := ho1.free (r / 64)
  rw [List.getD_eq_getElem?_getD, List.getElem?_eq_getElem hj, Option.getD_some] at hadd
  have hx : (Rst.pack l)[r / 64].toNat < 18446744073709551616 := Rst.u64_lt _
  have hor := or_word (s := r % 64) hx (by omega)
  have hB : (Rst.pack l)[r / 64].toNat ||| 2 ^ (r % 64) < 18446744073709551616 := Rst.or_lt hx (by omega)
  have hst := ho1.store (r / 64) (UInt64.ofNat ((Rst.pack l)[r / 64].toNat ||| 2 ^ (r % 64)))
  rw [hadd, uval_ofNat hB] at hst
  have Hst := Lib.hid hst
  have Hbl := Lib.hid (fun u => Lib.grownBy_setB hb1 (r / 64) u)
  have hquo : (r : Int) / 64 = ((r / 64 : Nat) : Int) := by omega
  have hrem : (r : Int) % 64 = ((r % 64 : Nat) : Int) := by omega
  have hs64 : r % 64 < 64 := by omega
  simp only [uval] at hcell
  generalize (Rst.pack l)[r / 64].toNat ||| 2 ^ (r % 64) = B at *
  generalize (Rst.pack l)[r / 64].toNat = x at *
  have hr4 : r ≤ 4096 := by omega
  clear hst hadd hj hown ho1 hb1 hlen hr
  generalize r / 64 = j at *
  generalize r % 64 = s at *
  obtain ⟨X, hX, hX0, hX1⟩ : ∃ X : Int, X = (x : Int) ∧ 0 ≤ X ∧ X ≤ 18446744073709551615 := ⟨x, rfl, by omega, by omega⟩
  rw [← hX] at hcell hor
  clear hX hx hB
  unfold rval
  go_enter Tryd.func31, Tryd.ntmps31
  go_wp2
  go_region
  go_wp2
  go_end0
  exact ⟨rfl, Hst.out, grown_drew (Hbl.out _)⟩
end Go.Proofs.YtggelnlbdpdegaaDoor
