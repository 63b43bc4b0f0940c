/- What the laws on token share: alive. -/
import Derived.Test.YtahcmpmfknmecaaTokCut
import Derived.Test.YtahcmpmfknmecaaTokIs
import Derived.Test.YtahcmpmfknmecaaLawIn
import Derived.Test.YtahcmpmfknmecaaFits
import Derived.Lib.SlBytesConst
namespace Go.Proofs.Ytahcmpmfknmecaa
open Go.RowKit
set_option maxRecDepth 100000

theorem cell_marked (w : World) (C : Array Value) (t : TypeId) (m : Nat × Nat) (i : Nat) : (w.alloc (.cells C t m)).cell? ⟨w.heap.size, i, none⟩ = C[i]? := by
  have h : (w.alloc (.cells C t m)).heap[w.heap.size]? = some (.cells C t m) := by
    show (w.heap.push (.cells C t m))[w.heap.size]? = _
    simp
  simp only [World.cell?, h]
  rfl
theorem bytes_get (w : World) : Bytes (w.alloc (.cells #[.int .u8 71, .int .u8 69, .int .u8 84, .int .u8 32, .int .u8 47, .int .u8 97] 5 (6, 7))) (w.alloc (.cells #[.int .u8 71, .int .u8 69, .int .u8 84, .int .u8 32, .int .u8 47, .int .u8 97] 5 (6, 7))).heap.size (some ⟨w.heap.size, 0, none⟩) [71, 69, 84, 32, 47, 97] := fun _ =>
  ⟨_, rfl, by simp, fun i hi => match i, hi with
    | 0, _ => (cell_marked w _ _ _ 0).trans rfl
    | 1, _ => (cell_marked w _ _ _ 1).trans rfl
    | 2, _ => (cell_marked w _ _ _ 2).trans rfl
    | 3, _ => (cell_marked w _ _ _ 3).trans rfl
    | 4, _ => (cell_marked w _ _ _ 4).trans rfl
    | 5, _ => (cell_marked w _ _ _ 5).trans rfl
    | k + 6, h => absurd h (by simp)⟩
theorem run_get (w : World) : (convert 22 22 (.slice (some ⟨w.heap.size, 0, none⟩) 6 6)).run Try.prog (w.alloc (.cells #[.int .u8 71, .int .u8 69, .int .u8 84, .int .u8 32, .int .u8 47, .int .u8 97] 5)) = .ok (.slice (some ⟨w.heap.size, 0, none⟩) 6 6) (w.alloc (.cells #[.int .u8 71, .int .u8 69, .int .u8 84, .int .u8 32, .int .u8 47, .int .u8 97] 5 (6, 7))) :=
  Lib.run_convert_bytes_const (P := Try.prog) w 22 5 #[.int .u8 71, .int .u8 69, .int .u8 84, .int .u8 32, .int .u8 47, .int .u8 97] 6 6 Try.underlying22 Try.underlying5
theorem Tok.cuts_get : Tok.cuts [71, 69, 84, 32, 47, 97] = [[103, 101, 116], [97]] := by decide
theorem Tok.is_get : Tok.is [103, 101, 116] = true ∧ Tok.is [71, 101, 116] = false := by decide

set_option maxHeartbeats 1000000 in
theorem tokAlive_any (w : World) : Calls Try.prog 9 #[] w fun e w' => e = .returned (.bool true) ∧ Below w.heap.size w w' := by
  have h1 := bytes_get w
  have hb1 : Below w.heap.size w (w.alloc (.cells #[.int .u8 71, .int .u8 69, .int .u8 84, .int .u8 32, .int .u8 47, .int .u8 97] 5 (6, 7))) := (Below.refl _ _).alloc (Nat.le_refl _) _
  have P1 := cut_any _ 6 6 _ _ _ rfl (by omega) (by omega) h1 (Nat.le_refl _)
  rw [Tok.cuts_get] at P1
  have P2 := fun w' => is_any [103, 101, 116] w' (by simp)
  rw [Tok.is_get.1] at P2
  have P3 := fun w' => is_any [71, 101, 116] w' (by simp)
  rw [Tok.is_get.2] at P3
  replace P1 := Lib.hid P1
  replace P2 := Lib.hid P2
  replace P3 := Lib.hid P3
  clear h1
  have hcv := run_get w
  go_enter Try.func9, Try.ntmps9
  go_wp2_with fail
  refine P1.out.mono ?_
  rintro e w2 ⟨A2, c2, rfl, ho2, hb2⟩
  have hbel2 := hb1.trans (hb2.mono hb1.size)
  obtain ⟨g, rfl, _, ha0, hb0⟩ := ho2.toks.get (k := 0) (by simp)
  obtain ⟨g', hg', _, ha1, hb1'⟩ := ho2.toks.get (k := 1) (by simp)
  cases hg'
  simp only [List.getElem_cons_zero, List.getElem_cons_succ] at hb0 hb1'
  clear P1 hb1 hb2 hcv
  go_wp2_with fail
  refine (P2.out w2).mono ?_
  rintro e w3 ⟨rfl, rfl⟩
  clear P2
  go_wp2_with fail
  refine (P3.out _).mono ?_
  rintro e w3 ⟨rfl, rfl⟩
  clear P3
  go_wp2
  go_ret
  exact ⟨rfl, hbel2⟩
end Go.Proofs.Ytahcmpmfknmecaa
