/- Pieces of a byte slice. -/
import Derived.Test.YtbjoboemhdcalaaDoorCopy
import Derived.Laws.Slices
import Derived.Lib.BufferRead
namespace Go.Proofs.YtbjoboemhdcalaaDoor
open Go.RowKit
set_option maxRecDepth 100000

theorem size8 (W : World) : (sizeOf 5).run Tryd.prog W = .ok 1 W := by
  obtain ⟨i0, hi0, hz0, hz1, hz2⟩ := info_parts byte_info
  simp [sizeOf, typeInfo, hi0, hz1]
theorem elem22 : Tryd.prog.elem 31 = 5 := by kernel_rfl
/-- where a piece that begins at lo lies -/
def cutAt (A : Option Addr) (cap lo : Nat) : Option Addr := if cap = lo then A else A.map (·.add lo)
theorem run_cut_lh (A : Option Addr) (n cap lo hi : Nat) (h1 : lo ≤ hi) (h2 : hi ≤ cap) (W : World) :
    (Instr.slice 31 (.slice A n cap) (some (.int .i64 (lo : Int))) (some (.int .i64 (hi : Int))) none).run Tryd.prog W = .ok (.slice (cutAt A cap lo) (hi - lo) (cap - lo)) W := by
  rw [run_slice_lh (P := Tryd.prog) (w := W) (kl := .i64) (kh := .i64) (l := (lo : Int)) (h := (hi : Int)) (h0 := by omega) (h1 := by omega) (h2 := by omega) (ht := by rw [elem22]; exact Tryd.underlying31)]
  rw [elem22, size8]
  simp [Result.andThen, sliced, cutAt]
theorem run_cut_h (A : Option Addr) (n cap hi : Nat) (h2 : hi ≤ cap) (W : World) :
    (Instr.slice 31 (.slice A n cap) none (some (.int .i64 (hi : Int))) none).run Tryd.prog W = .ok (.slice A hi cap) W := by
  rw [run_slice_h (P := Tryd.prog) (w := W) (kh := .i64) (h := (hi : Int)) (h0 := by omega) (h2 := by omega) (ht := by rw [elem22]; exact Tryd.underlying31)]
  rw [elem22, size8]
  by_cases hc : cap = 0 <;> cases A <;> simp [Result.andThen, sliced, Addr.add]
theorem run_cut_l (A : Option Addr) (n cap lo : Nat) (h1 : lo ≤ n) (W : World) :
    (Instr.slice 31 (.slice A n cap) (some (.int .i64 (lo : Int))) none none).run Tryd.prog W = .ok (.slice (cutAt A cap lo) (n - lo) (cap - lo)) W := by
  rw [run_slice_l (P := Tryd.prog) (w := W) (kl := .i64) (l := (lo : Int)) (h0 := by omega) (h1 := by omega) (ht := by rw [elem22]; exact Tryd.underlying31)]
  rw [elem22, size8]
  simp [Result.andThen, sliced, cutAt]
theorem Bytes.cut {w : World} {B : Nat} {A : Option Addr} {l : List UInt8} (h : Bytes w B A l) {k cap : Nat} (hk : k ≤ l.length) (hc : l.length ≤ cap) : Bytes w B (cutAt A cap k) (l.drop k) := h.drop hk hc
end Go.Proofs.YtbjoboemhdcalaaDoor
