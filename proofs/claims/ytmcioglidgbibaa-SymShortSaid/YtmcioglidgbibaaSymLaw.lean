/- The fixed fact of the laws of sym. -/
import Derived.Test.YtmcioglidgbibaaSymEnc
import Derived.Test.YtmcioglidgbibaaSymTake
import Derived.Lib.SlBytesConst
namespace Go.Proofs.Ytmcioglidgbibaa
open Go.RowKit
set_option maxRecDepth 100000

theorem Sym.encoded_abcab : Sym.encoded [[97, 98], [97, 98, 99]] [97, 98, 99, 97, 98] = ([1, 0], 0) := by
  unfold Sym.encoded
  rw [if_pos (by decide)]
  rw [Sym.encode_some (k := 1) (by decide) (by decide)]
  rw [show (List.drop (([[97, 98], [97, 98, 99]] : List (List UInt8)).getD 1 []).length [97, 98, 99, 97, 98] : List UInt8) = [97, 98] from rfl]
  rw [Sym.encode_some (k := 0) (by decide) (by decide)]
  rw [show (List.drop (([[97, 98], [97, 98, 99]] : List (List UInt8)).getD 0 []).length [97, 98] : List UInt8) = [] from rfl, Sym.encode_nil]
  rfl
theorem Sym.formed_ab : Sym.formed [[97, 98]] = true := by decide
theorem Sym.formed_a : Sym.formed [[97]] = false := by decide

theorem cell_marked (w : World) (C : Array Value) (e : TypeId) (m : Nat × Nat) (i : Nat) : (w.alloc (.cells C e m)).cell? ⟨w.heap.size, i, none⟩ = C[i]? := by
  have h : (w.alloc (.cells C e m)).heap[w.heap.size]? = some (.cells C e m) := by
    show (w.heap.push (.cells C e m))[w.heap.size]? = _
    simp
  simp only [World.cell?, h]
  rfl
theorem bytes_five (w : World) : Bytes (w.alloc (.cells #[.int .u8 97, .int .u8 98, .int .u8 99, .int .u8 97, .int .u8 98] 5 (5, 6))) (w.alloc (.cells #[.int .u8 97, .int .u8 98, .int .u8 99, .int .u8 97, .int .u8 98] 5 (5, 6))).heap.size (some ⟨w.heap.size, 0, none⟩) [97, 98, 99, 97, 98] := fun _ =>
  ⟨_, rfl, by simp, fun i hi => match i, hi with
    | 0, _ => (cell_marked w _ _ _ 0).trans rfl
    | 1, _ => (cell_marked w _ _ _ 1).trans rfl
    | 2, _ => (cell_marked w _ _ _ 2).trans rfl
    | 3, _ => (cell_marked w _ _ _ 3).trans rfl
    | 4, _ => (cell_marked w _ _ _ 4).trans rfl
    | k + 5, h => absurd h (by simp)⟩
theorem run_five (w : World) : (convert 24 24 (.slice (some ⟨w.heap.size, 0, none⟩) 5 5)).run Try.prog (w.alloc (.cells #[.int .u8 97, .int .u8 98, .int .u8 99, .int .u8 97, .int .u8 98] 5)) = .ok (.slice (some ⟨w.heap.size, 0, none⟩) 5 5) (w.alloc (.cells #[.int .u8 97, .int .u8 98, .int .u8 99, .int .u8 97, .int .u8 98] 5 (5, 6))) :=
  Lib.run_convert_bytes_const (P := Try.prog) w 24 5 #[.int .u8 97, .int .u8 98, .int .u8 99, .int .u8 97, .int .u8 98] 5 5 Try.underlying24 Try.underlying5
theorem own_str2 (w : World) (s u : List UInt8) : SOwn (w.alloc (.cells #[.string ⟨s.toArray⟩, .string ⟨u.toArray⟩] 9)) w.heap.size (some ⟨w.heap.size, 0, none⟩) 2 2 [s, u] :=
  ROwn.lit (f := sval) (e := 9) w w.heap.size [s, u] (Nat.le_refl _) (by simp [maxLen])

set_option maxHeartbeats 1000000 in
theorem symAlive_any (w : World) : Calls Try.prog 9 #[] w fun e w' => e = .returned (.bool true) ∧ Below w.heap.size w w' := by
  have hsa : (w.alloc (.cells #[.string ⟨#[97, 98]⟩, .string ⟨#[97, 98, 99]⟩] 9)).heap.size = w.heap.size + 1 := by simp
  have hta : SOwn (w.alloc (.cells #[.string ⟨#[97, 98]⟩, .string ⟨#[97, 98, 99]⟩] 9)) w.heap.size (some ⟨w.heap.size, 0, none⟩) 2 2 [[97, 98], [97, 98, 99]] := own_str2 w [97, 98] [97, 98, 99]
  have hba : Below w.heap.size w (w.alloc (.cells #[.string ⟨#[97, 98]⟩, .string ⟨#[97, 98, 99]⟩] 9)) := (Below.refl _ _).alloc (Nat.le_refl _) _
  have hcv := run_five (w.alloc (.cells #[.string ⟨#[97, 98]⟩, .string ⟨#[97, 98, 99]⟩] 9))
  have hb5 := bytes_five (w.alloc (.cells #[.string ⟨#[97, 98]⟩, .string ⟨#[97, 98, 99]⟩] 9))
  rw [hsa] at hcv hb5
  have hbb : Below (w.alloc (.cells #[.string ⟨#[97, 98]⟩, .string ⟨#[97, 98, 99]⟩] 9)).heap.size (w.alloc (.cells #[.string ⟨#[97, 98]⟩, .string ⟨#[97, 98, 99]⟩] 9)) ((w.alloc (.cells #[.string ⟨#[97, 98]⟩, .string ⟨#[97, 98, 99]⟩] 9)).alloc (.cells #[.int .u8 97, .int .u8 98, .int .u8 99, .int .u8 97, .int .u8 98] 5 (5, 6))) := (Below.refl _ _).alloc (Nat.le_refl _) _
  have htb := (hta.row.below hbb).wide hbb.size
  have hbw := hba.trans (hbb.mono hba.size)
  have P1 := encode_any (some ⟨w.heap.size, 0, none⟩) (some ⟨w.heap.size + 1, 0, none⟩) 2 5 2 5 _ [[97, 98], [97, 98, 99]] [97, 98, 99, 97, 98] _ rfl (by omega) (by omega) rfl (by omega) (by omega) htb (by decide) hb5 (Nat.le_refl _)
  rw [Sym.encoded_abcab] at P1
  have P1' : Calls Try.prog 16 #[.slice (some ⟨w.heap.size, 0, none⟩) 2 2, .slice (some ⟨w.heap.size + 1, 0, none⟩) 5 5] ((w.alloc (.cells #[.string ⟨#[97, 98]⟩, .string ⟨#[97, 98, 99]⟩] 9)).alloc (.cells #[.int .u8 97, .int .u8 98, .int .u8 99, .int .u8 97, .int .u8 98] 5 (5, 6))) fun e w' => ∃ A c, e = .returned (.tuple #[.slice A 2 c, .int .i64 0]) ∧ Own w' ((w.alloc (.cells #[.string ⟨#[97, 98]⟩, .string ⟨#[97, 98, 99]⟩] 9)).alloc (.cells #[.int .u8 97, .int .u8 98, .int .u8 99, .int .u8 97, .int .u8 98] 5 (5, 6))).heap.size A 2 c [1, 0] ∧ Below ((w.alloc (.cells #[.string ⟨#[97, 98]⟩, .string ⟨#[97, 98, 99]⟩] 9)).alloc (.cells #[.int .u8 97, .int .u8 98, .int .u8 99, .int .u8 97, .int .u8 98] 5 (5, 6))).heap.size ((w.alloc (.cells #[.string ⟨#[97, 98]⟩, .string ⟨#[97, 98, 99]⟩] 9)).alloc (.cells #[.int .u8 97, .int .u8 98, .int .u8 99, .int .u8 97, .int .u8 98] 5 (5, 6))) w' := P1
  have HP := Lib.hid P1'
  clear P1 P1' hta hba hb5 htb hbb hsa
  go_enter Try.func9, Try.ntmps9
  go_wp2_with fail
  generalize (w.alloc (.cells #[.string ⟨#[97, 98]⟩, .string ⟨#[97, 98, 99]⟩] 9)).alloc (.cells #[.int .u8 97, .int .u8 98, .int .u8 99, .int .u8 97, .int .u8 98] 5 (5, 6)) = wb at *
  refine HP.out.mono ?_
  rintro e w1 ⟨A1, c1, rfl, ho1, hb1⟩
  clear HP hcv
  have hbel1 := hbw.trans (hb1.mono hbw.size)
  have hoa := ho1.alloc (.cells #[.int .u8 1, .int .u8 0] 5)
  have h10 := (own_byte2 w1 1 0 1 0 rfl rfl).bytes
  have S1 := same_any A1 (some ⟨w1.heap.size, 0, none⟩) 2 2 c1 2 _ _ [1, 0] [1, 0] _ rfl rfl hoa.bytes h10
  rw [beq_self_eq_true] at S1
  have hbel2 : Below w.heap.size w (w1.alloc (.cells #[.int .u8 1, .int .u8 0] 5)) := hbel1.alloc hbel1.size _
  replace S1 := Lib.hid S1
  clear hoa h10 ho1 hb1 hbw
  go_wp2_with fail
  generalize w1.alloc (.cells #[.int .u8 1, .int .u8 0] 5) = w2 at *
  refine S1.out.mono ?_
  rintro e w3 ⟨rfl, rfl⟩
  clear S1
  have F1 := formed_any (some ⟨w2.heap.size, 0, none⟩) 1 1 _ [[97, 98]] _ rfl (by omega) (by omega) (own_str w2 [97, 98]).row (by decide)
  rw [Sym.formed_ab] at F1
  have hbel3 : Below w.heap.size w (w2.alloc (.cells #[.string ⟨#[97, 98]⟩] 9)) := hbel2.alloc hbel2.size _
  have F1' : Calls Try.prog 13 #[.slice (some ⟨w2.heap.size, 0, none⟩) 1 1] (w2.alloc (.cells #[.string ⟨#[97, 98]⟩] 9)) fun e w' => e = .returned (.bool true) ∧ w2.alloc (.cells #[.string ⟨#[97, 98]⟩] 9) = w' := F1
  have HF := Lib.hid F1'
  clear F1 F1'
  go_wp2_with fail
  generalize w2.alloc (.cells #[.string ⟨#[97, 98]⟩] 9) = w4 at *
  refine HF.out.mono ?_
  rintro e w5 ⟨rfl, rfl⟩
  clear HF
  have F2 := formed_any (some ⟨w4.heap.size, 0, none⟩) 1 1 _ [[97]] _ rfl (by omega) (by omega) (own_str w4 [97]).row (by decide)
  rw [Sym.formed_a] at F2
  have hbel4 : Below w.heap.size w (w4.alloc (.cells #[.string ⟨#[97]⟩] 9)) := hbel3.alloc hbel3.size _
  have F2' : Calls Try.prog 13 #[.slice (some ⟨w4.heap.size, 0, none⟩) 1 1] (w4.alloc (.cells #[.string ⟨#[97]⟩] 9)) fun e w' => e = .returned (.bool false) ∧ w4.alloc (.cells #[.string ⟨#[97]⟩] 9) = w' := F2
  have HF := Lib.hid F2'
  clear F2 F2'
  go_wp2_with fail
  generalize w4.alloc (.cells #[.string ⟨#[97]⟩] 9) = w6 at *
  refine HF.out.mono ?_
  rintro e w7 ⟨rfl, rfl⟩
  clear HF
  go_wp2
  go_ret
  exact ⟨rfl, hbel4⟩
end Go.Proofs.Ytmcioglidgbibaa
