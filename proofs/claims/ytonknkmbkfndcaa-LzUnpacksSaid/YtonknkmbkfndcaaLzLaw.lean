/- What the laws on lz share: alive. -/
import Derived.Test.YtonknkmbkfndcaaLzPack
import Derived.Test.YtonknkmbkfndcaaLzUnpAny
import Derived.Test.YtonknkmbkfndcaaBytesEq
import Derived.Test.YtonknkmbkfndcaaLawIn
import Derived.Lib.SlBytesConst
namespace Go.Proofs.Ytonknkmbkfndcaa
open Go.RowKit

theorem cell_marked (w : World) (C : Array Value) (t : TypeId) (m : Nat × Nat) (i : Nat) : (w.alloc (.cells C t m)).cell? ⟨w.heap.size, i, none⟩ = C[i]? := by
  have h : (w.alloc (.cells C t m)).heap[w.heap.size]? = some (.cells C t m) := by
    show (w.heap.push (.cells C t m))[w.heap.size]? = _
    simp
  simp only [World.cell?, h]
  rfl
theorem bytes_nine (w : World) : Bytes (w.alloc (.cells #[.int .u8 97, .int .u8 98, .int .u8 99, .int .u8 97, .int .u8 98, .int .u8 99, .int .u8 97, .int .u8 98, .int .u8 99] 5 (9, 10))) (w.alloc (.cells #[.int .u8 97, .int .u8 98, .int .u8 99, .int .u8 97, .int .u8 98, .int .u8 99, .int .u8 97, .int .u8 98, .int .u8 99] 5 (9, 10))).heap.size (some ⟨w.heap.size, 0, none⟩) [97, 98, 99, 97, 98, 99, 97, 98, 99] := fun _ =>
  ⟨_, rfl, by simp, fun i hi => match i, hi with
    | 0, _ => (cell_marked w _ _ _ 0).trans rfl
    | 1, _ => (cell_marked w _ _ _ 1).trans rfl
    | 2, _ => (cell_marked w _ _ _ 2).trans rfl
    | 3, _ => (cell_marked w _ _ _ 3).trans rfl
    | 4, _ => (cell_marked w _ _ _ 4).trans rfl
    | 5, _ => (cell_marked w _ _ _ 5).trans rfl
    | 6, _ => (cell_marked w _ _ _ 6).trans rfl
    | 7, _ => (cell_marked w _ _ _ 7).trans rfl
    | 8, _ => (cell_marked w _ _ _ 8).trans rfl
    | k + 9, h => absurd h (by simp)⟩
theorem run_nine (w : World) : (convert 22 22 (.slice (some ⟨w.heap.size, 0, none⟩) 9 9)).run Try.prog (w.alloc (.cells #[.int .u8 97, .int .u8 98, .int .u8 99, .int .u8 97, .int .u8 98, .int .u8 99, .int .u8 97, .int .u8 98, .int .u8 99] 5)) = .ok (.slice (some ⟨w.heap.size, 0, none⟩) 9 9) (w.alloc (.cells #[.int .u8 97, .int .u8 98, .int .u8 99, .int .u8 97, .int .u8 98, .int .u8 99, .int .u8 97, .int .u8 98, .int .u8 99] 5 (9, 10))) :=
  Lib.run_convert_bytes_const (P := Try.prog) w 22 5 #[.int .u8 97, .int .u8 98, .int .u8 99, .int .u8 97, .int .u8 98, .int .u8 99, .int .u8 97, .int .u8 98, .int .u8 99] 9 9 Try.underlying22 Try.underlying5
theorem own_seven (w : World) : Own (w.alloc (.cells #[.int .u8 50, .int .u8 97, .int .u8 98, .int .u8 99, .int .u8 3, .int .u8 0, .int .u8 0] 5)) w.heap.size (some ⟨w.heap.size, 0, none⟩) 7 7 [50, 97, 98, 99, 3, 0, 0] :=
  own_lit w w.heap.size [50, 97, 98, 99, 3, 0, 0] (Nat.le_refl _) (by simp [maxLen])

set_option maxHeartbeats 1000000 in
theorem lzAlive_any (w : World) : Calls Try.prog 8 #[] w fun e w' => e = .returned (.bool true) ∧ Below w.heap.size w w' := by
  have h1 := bytes_nine w
  have hb1 : Below w.heap.size w (w.alloc (.cells #[.int .u8 97, .int .u8 98, .int .u8 99, .int .u8 97, .int .u8 98, .int .u8 99, .int .u8 97, .int .u8 98, .int .u8 99] 5 (9, 10))) := (Below.refl _ _).alloc (Nat.le_refl _) _
  have P1 := pack_any _ 9 9 _ _ _ rfl (by omega) (by omega) h1 (Nat.le_refl _)
  rw [Lz.pack_abc] at P1
  have P2 := fun w' => unpack_any _ 7 7 _ _ 9 _ rfl (by omega) (by omega) (by omega) (own_seven w').bytes (Nat.le_refl _)
  rw [Lz.unpack_abc] at P2
  replace P1 := Lib.hid P1
  replace P2 := Lib.hid P2
  clear h1
  have hcv := run_nine w
  go_enter Try.func8, Try.ntmps8
  go_wp2_with fail
  refine P1.out.mono ?_
  rintro e w2 ⟨A2, c2, rfl, ho2, hb2⟩
  have hbel2 := hb1.trans (hb2.mono hb1.size)
  clear P1 hb1
  go_wp2_with fail
  refine (P2.out w2).mono ?_
  rintro e w3 ⟨A3, c3, rfl, ho3, hb3⟩
  have hal : Below w2.heap.size w2 (w2.alloc (.cells #[.int .u8 50, .int .u8 97, .int .u8 98, .int .u8 99, .int .u8 3, .int .u8 0, .int .u8 0] 5)) := (Below.refl _ _).alloc (Nat.le_refl _) _
  have hb23 := hal.trans (hb3.mono hal.size)
  have hbel3 := hbel2.trans (hb23.mono hbel2.size)
  have ho2' := ho2.below hb23
  clear P2 hal hb3 hb23 hbel2 ho2
  have hbel4 : Below w.heap.size w (w3.alloc (.cells #[.int .u8 50, .int .u8 97, .int .u8 98, .int .u8 99, .int .u8 3, .int .u8 0, .int .u8 0] 5)) := hbel3.alloc hbel3.size _
  have S1 := same_any A2 _ 7 7 c2 7 _ _ [50, 97, 98, 99, 3, 0, 0] [50, 97, 98, 99, 3, 0, 0] _ rfl rfl (ho2'.alloc (.cells #[.int .u8 50, .int .u8 97, .int .u8 98, .int .u8 99, .int .u8 3, .int .u8 0, .int .u8 0] 5)).bytes (own_seven w3).bytes
  rw [beq_self_eq_true] at S1
  replace S1 := Lib.hid S1
  have hstr := run_string_of (ho3.alloc (.cells #[.int .u8 50, .int .u8 97, .int .u8 98, .int .u8 99, .int .u8 3, .int .u8 0, .int .u8 0] 5)).bytes c3
  simp only [List.length_cons, List.length_nil, Nat.zero_add, Nat.reduceAdd] at hstr
  go_wp2_with fail
  generalize w3.alloc (.cells #[.int .u8 50, .int .u8 97, .int .u8 98, .int .u8 99, .int .u8 3, .int .u8 0, .int .u8 0] 5) = w4 at *
  refine S1.out.mono ?_
  rintro e w5 ⟨rfl, rfl⟩
  clear S1
  go_wp2
  go_ret
  exact ⟨rfl, hbel4⟩
end Go.Proofs.Ytonknkmbkfndcaa
