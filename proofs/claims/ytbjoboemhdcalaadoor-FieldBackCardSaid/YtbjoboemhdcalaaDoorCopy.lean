/- dragnetref01.Copy: a new slice of the same bytes. -/
import Derived.Test.YtbjoboemhdcalaaDoorOwn
import Derived.WalkSpells
import Derived.WalkLawsBesides
namespace Go.Proofs.YtbjoboemhdcalaaDoor
open Go.RowKit
set_option maxRecDepth 100000

/-- what a call leaves that returns a byte slice of its own (or of its caller's), in a block from 'base' on: just these bytes; all below 'base' is as it was -/
def MadeAt (base : Nat) (w : World) (n : Nat) (l : List UInt8) (e : Ending) (w' : World) : Prop :=
  ∃ A c, e = .returned (.slice A n c) ∧ Own w' base A n c l ∧ Below base w w'

theorem copy_any (A : Option Addr) (n cap B : Nat) (l : List UInt8) (w : World) (hl : l.length = n) (hn : n ≤ 140737488355328) (hb : Bytes w B A l) (hB : B ≤ w.heap.size) :
    Calls Tryd.prog 16 #[.slice A n cap] w (MadeAt w.heap.size w n l) := by
  have Hl := Lib.hid hl; clear hl
  go_enter Tryd.func16, Tryd.ntmps16
  have hb1 : Bytes (w.alloc (.cells #[] 5)) B A l := hb.below ((Below.refl _ _).alloc hB _)
  have ho1 : Own (w.alloc (.cells #[] 5)) w.heap.size (some ⟨w.heap.size, 0, none⟩) 0 0 [] := own_made w w.heap.size #[] 0 (Nat.le_refl _) (by simp only [maxLen]; omega) rfl
  have hbel : Below w.heap.size w (w.alloc (.cells #[] 5)) := (Below.refl _ _).alloc (Nat.le_refl _) _
  clear hb
  go_wp2_with (at_builtin; refine wpList_append_bytes rfl (.tmp 3) (.tmp 4) rfl w.heap.size _ 0 0 [] rfl ho1 B A n cap l rfl Hl.out hb1 (by omega) (by simp) ?_; intro A1 c1 w1 ho2 hg2 hat2)
  go_ret
  rw [Nat.zero_add] at ho2
  refine ⟨A1, c1, by simp, ho2, hbel.grown hg2 (by simp) ?_⟩
  intro k hk
  simp [blk] at hk
  omega
end Go.Proofs.YtbjoboemhdcalaaDoor
