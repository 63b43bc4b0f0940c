/- Slices of bool: what they hold, made. -/
import Derived.Test.YtggelnlbdpdegaaDoorNumsB
namespace Go.Proofs.YtggelnlbdpdegaaDoor
open Go.RowKit
set_option maxRecDepth 100000

/-- a bool as a value -/
def blval (b : Bool) : Value := .bool b
theorem bool_info : (Tryd.prog.info? 4).map (fun i => (i.zero, i.size, i.bytes)) = some (some (.bool false), 1, 1) := by kernel_rfl
abbrev Bools (w : World) (B : Nat) (A : Option Addr) (l : List Bool) : Prop := Row blval w B A l
abbrev BOwn (w : World) (base : Nat) (A : Option Addr) (n c : Nat) (l : List Bool) : Prop := ROwn blval 4 w base A n c l
theorem run_make_bools (n : Nat) (hn : n ≤ 1000000) (w : World) :
    (Instr.makeSlice 42 (.int .i64 (n : Int)) (.int .i64 (n : Int))).run Tryd.prog w = .ok (.slice (some ⟨w.heap.size, 0, none⟩) n n) (w.alloc (.cells (madeCells #[.bool false] n) 4)) :=
  run_make_row' 42 4 (.bool false) 1 Tryd.underlying42 bool_info rfl .i64 .i64 n (by omega) (by omega) w
theorem own_bools (w : World) (n : Nat) (hn : n ≤ maxLen) : BOwn (w.alloc (.cells (madeCells #[.bool false] n) 4)) w.heap.size (some ⟨w.heap.size, 0, none⟩) n n (List.replicate n false) := by
  have h := World.ownsRow_lit (e := 4) (size := 1) w (madeCells #[.bool false] n) n (Nat.le_refl _) hn (by rw [size_madeCells]; omega)
  rw [toList_madeCells_one] at h
  unfold BOwn ROwn
  rw [show (List.replicate n false).map blval = List.replicate n (.bool false) from by simp [blval]]
  exact h
end Go.Proofs.YtggelnlbdpdegaaDoor
