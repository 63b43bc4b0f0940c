/- dragnetref05: sum; part. -/
import Derived.Test.YtonknkmbkfndcaaLzRefA
import Derived.Test.YtonknkmbkfndcaaLzApp
namespace Go.Proofs.Ytonknkmbkfndcaa
open Go.RowKit

/-- what sum answers -/
def SumPost (w : World) (n : Nat) (r : Option (Nat × List UInt8)) (e : Ending) (w' : World) : Prop :=
  (match r with
    | none => ∃ v, e = .returned (.tuple #[.int .i64 v, .int .i64 (-1)])
    | some (c, t) => e = .returned (.tuple #[.int .i64 (c : Int), .int .i64 ((n - t.length : Nat) : Int)])) ∧ w = w'

set_option maxHeartbeats 1000000 in
theorem sum_any (A : Option Addr) (n cap B i : Nat) (l : List UInt8) (w : World) (hl : l.length = n) (hi : i ≤ n) (hm : n ≤ 281474976710656) (hb : Bytes w B A l) :
    Calls Try.prog 25 #[.slice A n cap, .int .i64 (i : Int)] w (SumPost w n (Lz.takeExt 15 (l.drop i))) := by
  generalize hR : Lz.takeExt 15 (l.drop i) = R
  have HR := Lib.hid hR
  have Hl := Lib.hid hl
  clear hR hl
  go_enter Try.func25, Try.ntmps25
  go_wp2
  go_loopw [6, 7] (fun c s wr => ∃ (j : Nat), i + j ≤ n ∧ s = .int .i64 ((i : Int) + (j : Int)) ∧ c = .int .i64 (15 + 255 * (j : Int)) ∧ Lz.takeExt (15 + 255 * j) (l.drop (i + j)) = R ∧ w = wr) (fun _ s _ => n - (intOf s).toNat)
  case atStart => exact ⟨0, by omega, by go_num, rfl, HR.out, rfl⟩
  case round =>
    clear HR
    obtain ⟨j, hj, rfl, rfl, hR, rfl⟩ := hrel
    have HR := Lib.hid hR; clear hR
    by_cases hlt : i + j < n
    · have hjl : i + j < l.length := by have := Hl.out; omega
      obtain ⟨ad, rfl⟩ := hb.addr hjl
      have hcell := hb.at_ hjl
      have hx := Lz.at_lt l (i + j)
      have hstep : Lz.takeExt (15 + 255 * j) (l.drop (i + j)) = if Lz.at_ l (i + j) = 255 then Lz.takeExt (15 + 255 * (j + 1)) (l.drop (i + (j + 1))) else some (15 + 255 * j + Lz.at_ l (i + j), l.drop (i + (j + 1))) := by
        rw [List.drop_eq_getElem_cons hjl, Lz.takeExt, Lz.at_get hjl, show 15 + 255 * j + 255 = 15 + 255 * (j + 1) from by omega]
        rfl
      rw [HR.out] at hstep
      have Hst := Lib.hid hstep
      clear hstep
      have hlt' : (i : Int) + (j : Int) < (n : Int) := by omega
      have hj0 : (0 : Int) ≤ (i : Int) + (j : Int) := by omega
      have hidx := run_index_at ad n cap (i + j) hlt
      rw [Int.natCast_add] at hidx
      have HB := Lib.hid hb; clear hb
      generalize Lz.at_ l (i + j) = x at *
      generalize ad.add (i + j) = p at *
      by_cases h255 : x = 255
      · have h3 := Hst.out
        rw [if_pos h255] at h3
        replace h3 := Lib.hid h3
        subst h255
        clear Hst
        go_wp2
        go_roundw
        case rel => exact ⟨j + 1, by omega, by go_num, congrArg (Value.int .i64) (by omega), h3.out.symm, trivial⟩
        case measure => simp [intOf]; omega
      · have h3 := Hst.out
        rw [if_neg h255] at h3
        have h255' : ¬ ((x : Int) = 255) := by omega
        replace h3 := Lib.hid h3
        clear Hst h255
        go_wp2
        go_ret2
        rw [h3.out]
        refine ⟨?_, rfl⟩
        show Ending.returned _ = Ending.returned _
        rw [List.length_drop, Hl.out, show n - (n - (i + (j + 1))) = i + (j + 1) from by omega]
        go_num
    · obtain rfl : i + j = n := by omega
      have h3 : R = none := by rw [← HR.out, List.drop_of_length_le (by rw [Hl.out]; exact Nat.le_refl _)]; rfl
      replace h3 := Lib.hid h3
      go_wp2
      go_ret2
      rw [h3.out]
      exact ⟨⟨_, rfl⟩, rfl⟩
end Go.Proofs.Ytonknkmbkfndcaa
