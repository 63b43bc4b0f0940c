/- crc.appendWord and crc.readWord; the four bytes of a number. -/
import Derived.Test.YtgjofpjijnbjeaaDoorCopy
import Derived.Laws.BitsAllLaws
namespace Go.Proofs.YtgjofpjijnbjeaaDoor
open Go.RowKit

/-- a number's four bytes, the lowest first -/
def four (x : Nat) : List UInt8 := [UInt8.ofNat x, UInt8.ofNat (x / 256), UInt8.ofNat (x / 65536), UInt8.ofNat (x / 16777216)]
theorem four_length (x : Nat) : (four x).length = 4 := rfl
theorem bval_ofNat (x : Nat) : bval (UInt8.ofNat x) = .int .u8 ((x : Int) % 256) := by
  unfold bval
  rw [UInt8.toNat_ofNat']
  exact congrArg _ (by omega)

theorem bval_small {x : Nat} (h : x < 256) : bval (UInt8.ofNat x) = .int .u8 (x : Int) := by
  rw [bval_ofNat]
  exact congrArg _ (by omega)
theorem bvals_four (x : Nat) (hx : x < 4294967296) : bvals (four x) = [.int .u8 ((x : Int) % 256), .int .u8 ((x : Int) / 256 % 256), .int .u8 ((x : Int) / 65536 % 256), .int .u8 ((x : Int) / 16777216)] := by
  simp only [bvals, four, List.map_cons, List.map_nil, bval_ofNat, List.cons.injEq, Value.int.injEq, true_and, and_true]
  omega

set_option maxHeartbeats 400000 in
theorem appendWord_any (A : Option Addr) (n c base : Nat) (l : List UInt8) (x : Nat) (w : World) (hx : x < 4294967296) (hown : Own w base A n c l) (hn : n + 4 ≤ 140737488355328) (hbase : base ≤ w.heap.size) :
    Calls Tryd.prog 25 #[.slice A n c, .int .u32 (x : Int)] w (MadeAt base w (n + 4) (l ++ four x)) := by
  have hlit : Own (w.alloc (.cells #[.int .u8 ((x : Int) % 256), .int .u8 ((x : Int) / 256 % 256), .int .u8 ((x : Int) / 65536 % 256), .int .u8 ((x : Int) / 16777216)] 5)) w.heap.size (some ⟨w.heap.size, 0, none⟩) 4 4 (four x) := by
    have h := own_lit w w.heap.size (four x) (Nat.le_refl _) (by rw [four_length]; simp only [maxLen]; omega)
    rw [bvals_four x hx] at h
    exact h
  have hb1 := hlit.bytes
  have ho1 := hown.alloc (.cells #[.int .u8 ((x : Int) % 256), .int .u8 ((x : Int) / 256 % 256), .int .u8 ((x : Int) / 65536 % 256), .int .u8 ((x : Int) / 16777216)] 5)
  have hbel : Below base w (w.alloc (.cells #[.int .u8 ((x : Int) % 256), .int .u8 ((x : Int) / 256 % 256), .int .u8 ((x : Int) / 65536 % 256), .int .u8 ((x : Int) / 16777216)] 5)) := (Below.refl _ _).alloc hbase _
  have hlow : ∀ k, blk A = some k → base ≤ k := fun k hk => (hown.lt hk).1
  have Hlow := Lib.hid hlow; clear hlow
  clear hlit hown
  go_enter Tryd.func25, Tryd.ntmps25
  go_wp2_with (at_builtin; refine wpList_append_bytes rfl (.tmp 5) (.tmp 17) rfl base A n c l rfl ho1 _ _ 4 4 (four x) rfl rfl hb1 hn (by simp; omega) ?_; intro A1 c1 w1 ho2 hg2 hat2)
  go_ret
  exact ⟨A1, c1, rfl, ho2, hbel.grown hg2 (by simp; omega) Hlow.out⟩
end Go.Proofs.YtgjofpjijnbjeaaDoor
