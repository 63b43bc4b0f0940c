/- The first frame and the one frame, told in one form whatever comes out. -/
import Derived.Test.YtgjofpjijnbjeaaDoorRefUnwrap
namespace Go.Proofs.YtgjofpjijnbjeaaDoor
open Go.RowKit

theorem Own.cap {w : World} {base : Nat} {A : Option Addr} {n c : Nat} {l : List UInt8} (h : Own w base A n c l) : n ≤ c := by
  rcases h.2 with ⟨_, rfl⟩ | ⟨g, cap, cur, hv, _, _, hnc, _⟩
  · omega
  · injection hv with _ _ h3
    omega
theorem own_none (w : World) (base : Nat) : Own w base none 0 0 [] := World.ownsRow_nil w base 5 1

def fLen (l : List UInt8) : Nat := if frameErr l = 0 then word l else 0
def fPay (l : List UInt8) : List UInt8 := if frameErr l = 0 then pay l else []
def fSize (l : List UInt8) : Nat := if frameErr l = 0 then word l + 8 else 0
def uLen (l : List UInt8) : Nat := if unwrapErr l = 0 then word l else 0
def uPay (l : List UInt8) : List UInt8 := if unwrapErr l = 0 then pay l else []
theorem fPay_length (l : List UInt8) : (fPay l).length = fLen l := by
  unfold fPay fLen
  split
  · rename_i h; exact pay_length (frameErr_zero h).1
  · rfl
theorem uPay_length (l : List UInt8) : (uPay l).length = uLen l := by
  unfold uPay uLen
  split
  · rename_i h; exact pay_length (unwrapErr_zero h).1
  · rfl
theorem fLen_le (l : List UInt8) : fLen l ≤ 16777216 := by
  unfold fLen
  split
  · rename_i h; exact (sizeErr_zero (frameErr_zero h).1).2.1
  · omega
theorem fSize_le (l : List UInt8) : fSize l ≤ 16777224 := by
  unfold fSize
  split
  · rename_i h; have := (sizeErr_zero (frameErr_zero h).1).2.1; omega
  · omega
theorem fSize_fit (l : List UInt8) : fSize l ≤ l.length := by
  unfold fSize
  split
  · rename_i h; exact (sizeErr_zero (frameErr_zero h).1).2.2
  · omega

theorem FirstPost.uni {w : World} {l : List UInt8} {e : Ending} {w' : World} (h : FirstPost w l e w') :
    ∃ A c, e = .returned (.tuple #[.slice A (fLen l) c, .int .i64 ((fSize l : Nat) : Int), .int .i64 ((frameErr l : Nat) : Int)]) ∧ Own w' w.heap.size A (fLen l) c (fPay l) ∧ Below w.heap.size w w' := by
  obtain ⟨hb, ⟨h0, rfl⟩ | ⟨h0, A, c, rfl, ho⟩⟩ := h
  · refine ⟨none, 0, ?_, ?_, hb⟩
    · unfold fLen fSize; rw [if_neg h0, if_neg h0]; rfl
    · unfold fLen fPay; rw [if_neg h0, if_neg h0]; exact own_none _ _
  · refine ⟨A, c, ?_, ?_, hb⟩
    · unfold fLen fSize; rw [if_pos h0, if_pos h0, h0]; rfl
    · unfold fLen fPay; rw [if_pos h0, if_pos h0]; exact ho
theorem UnwrapPost.uni {w : World} {l : List UInt8} {e : Ending} {w' : World} (h : UnwrapPost w l e w') :
    ∃ A c, e = .returned (.tuple #[.slice A (uLen l) c, .int .i64 ((unwrapErr l : Nat) : Int)]) ∧ Own w' w.heap.size A (uLen l) c (uPay l) ∧ Below w.heap.size w w' := by
  obtain ⟨hb, ⟨h0, rfl⟩ | ⟨h0, A, c, rfl, ho⟩⟩ := h
  · refine ⟨none, 0, ?_, ?_, hb⟩
    · unfold uLen; rw [if_neg h0]
    · unfold uLen uPay; rw [if_neg h0, if_neg h0]; exact own_none _ _
  · refine ⟨A, c, ?_, ?_, hb⟩
    · unfold uLen; rw [if_pos h0, h0]; rfl
    · unfold uLen uPay; rw [if_pos h0, if_pos h0]; exact ho
end Go.Proofs.YtgjofpjijnbjeaaDoor
