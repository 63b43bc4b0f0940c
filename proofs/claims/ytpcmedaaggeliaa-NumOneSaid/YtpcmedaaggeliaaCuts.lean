/- Pieces of a byte slice, and bytes.Clone. -/
import Derived.Test.YtpcmedaaggeliaaCopy
import Derived.Laws.Slices
import Derived.Lib.BufferRead
namespace Go.Proofs.Ytpcmedaaggeliaa
open Go.RowKit

theorem size8 (W : World) : (sizeOf 5).run Try.prog W = .ok 1 W := by
  obtain ⟨i0, hi0, hz0, hz1, hz2⟩ := info_parts byte_info
  simp [sizeOf, typeInfo, hi0, hz1]
theorem elem22 : Try.prog.elem 22 = 5 := by kernel_rfl
/-- where a piece that begins at lo lies -/
def cutAt (A : Option Addr) (cap lo : Nat) : Option Addr := if cap = lo then A else A.map (·.add lo)
theorem run_cut_lh (A : Option Addr) (n cap lo hi : Nat) (h1 : lo ≤ hi) (h2 : hi ≤ cap) (W : World) :
    (Instr.slice 22 (.slice A n cap) (some (.int .i64 (lo : Int))) (some (.int .i64 (hi : Int))) none).run Try.prog W = .ok (.slice (cutAt A cap lo) (hi - lo) (cap - lo)) W := by
  rw [run_slice_lh (P := Try.prog) (w := W) (kl := .i64) (kh := .i64) (l := (lo : Int)) (h := (hi : Int)) (h0 := by omega) (h1 := by omega) (h2 := by omega) (ht := by rw [elem22]; exact Try.underlying22)]
  rw [elem22, size8]
  simp [Result.andThen, sliced, cutAt]
theorem run_cut_h (A : Option Addr) (n cap hi : Nat) (h2 : hi ≤ cap) (W : World) :
    (Instr.slice 22 (.slice A n cap) none (some (.int .i64 (hi : Int))) none).run Try.prog W = .ok (.slice A hi cap) W := by
  rw [run_slice_h (P := Try.prog) (w := W) (kh := .i64) (h := (hi : Int)) (h0 := by omega) (h2 := by omega) (ht := by rw [elem22]; exact Try.underlying22)]
  rw [elem22, size8]
  by_cases hc : cap = 0 <;> cases A <;> simp [Result.andThen, sliced, Addr.add]
theorem run_cut_l (A : Option Addr) (n cap lo : Nat) (h1 : lo ≤ n) (W : World) :
    (Instr.slice 22 (.slice A n cap) (some (.int .i64 (lo : Int))) none none).run Try.prog W = .ok (.slice (cutAt A cap lo) (n - lo) (cap - lo)) W := by
  rw [run_slice_l (P := Try.prog) (w := W) (kl := .i64) (l := (lo : Int)) (h0 := by omega) (h1 := by omega) (ht := by rw [elem22]; exact Try.underlying22)]
  rw [elem22, size8]
  simp [Result.andThen, sliced, cutAt]
theorem Bytes.cut {w : World} {B : Nat} {A : Option Addr} {l : List UInt8} (h : Bytes w B A l) {k cap : Nat} (hk : k ≤ l.length) (hc : l.length ≤ cap) : Bytes w B (cutAt A cap k) (l.drop k) := h.drop hk hc

set_option maxHeartbeats 400000 in
theorem clone_any (ad : Addr) (n cap B : Nat) (l : List UInt8) (w : World) (hl : l.length = n) (hn : n ≤ 140737488355328) (hb : Bytes w B (some ad) l) (hB : B ≤ w.heap.size) :
    Calls Try.prog 34 #[.slice (some ad) n cap] w (MadeAt w.heap.size w n l) := by
  have q22 : ∀ (w : World) (a : Option Addr) (n c n' c' : Nat), (binOp .eql 22 (.slice a n c) (.slice none n' c')).run Try.prog w = .ok (.bool a.isNone) w := fun w a n c n' c' => Lib.run_eql_slice_nil w _ _ a n c n' c' Try.underlying22
  have Hl := Lib.hid hl; clear hl
  have hb1 : Bytes (w.alloc (.cells #[] 5)) B (some ad) l := hb.below ((Below.refl _ _).alloc hB _)
  have ho1 : Own (w.alloc (.cells #[] 5)) w.heap.size (some ⟨w.heap.size, 0, none⟩) 0 0 [] := own_made w w.heap.size #[] 0 (Nat.le_refl _) (by simp only [maxLen]; omega) rfl
  have hbel : Below w.heap.size w (w.alloc (.cells #[] 5)) := (Below.refl _ _).alloc (Nat.le_refl _) _
  clear hb
  go_enter Try.func34, Try.ntmps34
  go_wp2_with (at_builtin; refine wpList_append_bytes rfl (.tmp 5) (.tmp 6) rfl w.heap.size _ 0 0 [] rfl ho1 B (some ad) n cap l rfl Hl.out hb1 (by omega) (by simp) ?_; intro A1 c1 w1 ho2 hg2 hat2)
  go_ret
  rw [Nat.zero_add] at ho2
  refine ⟨A1, c1, by simp, ho2, hbel.grown hg2 (by simp) ?_⟩
  intro k hk
  simp [blk] at hk
  omega
theorem clone_nil (n cap B : Nat) (l : List UInt8) (w : World) (hl : l.length = n) (hb : Bytes w B none l) :
    Calls Try.prog 34 #[.slice none n cap] w (MadeAt w.heap.size w n l) := by
  have q22 : ∀ (w : World) (a : Option Addr) (n c n' c' : Nat), (binOp .eql 22 (.slice a n c) (.slice none n' c')).run Try.prog w = .ok (.bool a.isNone) w := fun w a n c n' c' => Lib.run_eql_slice_nil w _ _ a n c n' c' Try.underlying22
  have hl0 : l = [] := by
    rcases Classical.em (l = []) with h | h
    · exact h
    · obtain ⟨_, h, _⟩ := hb h; cases h
  subst hl0
  obtain rfl : 0 = n := by simpa using hl
  clear hb hl
  go_enter Try.func34, Try.ntmps34
  go_wp2
  go_ret
  exact ⟨none, 0, rfl, World.ownsRow_nil w _ _ _, Below.refl _ _⟩
theorem clone_all (A : Option Addr) (n cap B : Nat) (l : List UInt8) (w : World) (hl : l.length = n) (hn : n ≤ 140737488355328) (hb : Bytes w B A l) (hB : B ≤ w.heap.size) :
    Calls Try.prog 34 #[.slice A n cap] w (MadeAt w.heap.size w n l) := by
  cases A with
  | none => exact clone_nil n cap B l w hl hb
  | some ad => exact clone_any ad n cap B l w hl hn hb hB
end Go.Proofs.Ytpcmedaaggeliaa
