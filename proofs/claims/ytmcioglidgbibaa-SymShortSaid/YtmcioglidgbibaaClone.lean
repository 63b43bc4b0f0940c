/- bytes.Clone. -/
import Derived.Test.YtmcioglidgbibaaCuts
namespace Go.Proofs.Ytmcioglidgbibaa
open Go.RowKit
set_option maxRecDepth 100000

set_option maxHeartbeats 400000 in
theorem clone_any (ad : Addr) (n cap B : Nat) (l : List UInt8) (w : World) (hl : l.length = n) (hn : n ≤ 140737488355328) (hb : Bytes w B (some ad) l) (hB : B ≤ w.heap.size) :
    Calls Try.prog 58 #[.slice (some ad) n cap] w (MadeAt w.heap.size w n l) := by
  have q22 : ∀ (w : World) (a : Option Addr) (n c n' c' : Nat), (binOp .eql 24 (.slice a n c) (.slice none n' c')).run Try.prog w = .ok (.bool a.isNone) w := fun w a n c n' c' => Lib.run_eql_slice_nil w _ _ a n c n' c' Try.underlying24
  have Hl := Lib.hid hl; clear hl
  have hb1 : Bytes (w.alloc (.cells #[] 5)) B (some ad) l := hb.below ((Below.refl _ _).alloc hB _)
  have ho1 : Own (w.alloc (.cells #[] 5)) w.heap.size (some ⟨w.heap.size, 0, none⟩) 0 0 [] := own_made w w.heap.size #[] 0 (Nat.le_refl _) (by simp only [maxLen]; omega) rfl
  have hbel : Below w.heap.size w (w.alloc (.cells #[] 5)) := (Below.refl _ _).alloc (Nat.le_refl _) _
  clear hb
  go_enter Try.func58, Try.ntmps58
  go_wp2_with (at_builtin; refine wpList_append_bytes rfl (.tmp 5) (.tmp 6) rfl w.heap.size _ 0 0 [] rfl ho1 B (some ad) n cap l rfl Hl.out hb1 (by omega) (by simp) ?_; intro A1 c1 w1 ho2 hg2 hat2)
  go_ret
  rw [Nat.zero_add] at ho2
  refine ⟨A1, c1, by simp, ho2, hbel.grown hg2 (by simp) ?_⟩
  intro k hk
  simp [blk] at hk
  omega
theorem clone_nil (n cap B : Nat) (l : List UInt8) (w : World) (hl : l.length = n) (hb : Bytes w B none l) :
    Calls Try.prog 58 #[.slice none n cap] w (MadeAt w.heap.size w n l) := by
  have q22 : ∀ (w : World) (a : Option Addr) (n c n' c' : Nat), (binOp .eql 24 (.slice a n c) (.slice none n' c')).run Try.prog w = .ok (.bool a.isNone) w := fun w a n c n' c' => Lib.run_eql_slice_nil w _ _ a n c n' c' Try.underlying24
  have hl0 : l = [] := by
    rcases Classical.em (l = []) with h | h
    · exact h
    · obtain ⟨_, h, _⟩ := hb h; cases h
  subst hl0
  obtain rfl : 0 = n := by simpa using hl
  clear hb hl
  go_enter Try.func58, Try.ntmps58
  go_wp2
  go_ret
  exact ⟨none, 0, rfl, World.ownsRow_nil w _ _ _, Below.refl _ _⟩
theorem clone_all (A : Option Addr) (n cap B : Nat) (l : List UInt8) (w : World) (hl : l.length = n) (hn : n ≤ 140737488355328) (hb : Bytes w B A l) (hB : B ≤ w.heap.size) :
    Calls Try.prog 58 #[.slice A n cap] w (MadeAt w.heap.size w n l) := by
  cases A with
  | none => exact clone_nil n cap B l w hl hb
  | some ad => exact clone_any ad n cap B l w hl hn hb hB
end Go.Proofs.Ytmcioglidgbibaa
