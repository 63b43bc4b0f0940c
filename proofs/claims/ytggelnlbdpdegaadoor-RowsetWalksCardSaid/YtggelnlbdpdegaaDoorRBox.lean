/- A set in a block of its own: kept, and read. -/
import Derived.Test.YtggelnlbdpdegaaDoorRstHas
import Derived.Test.YtggelnlbdpdegaaDoorRstPl
import Derived.Lib.SmallJoins
namespace Go.Proofs.YtggelnlbdpdegaaDoor
open Go.RowKit
set_option maxRecDepth 100000

/-- the two cells of a set in a block -/
def RBox (w : World) (b : Nat) (N : Int) (A : Option Addr) (n c : Nat) : Prop := w.heap[b]? = some (.cells #[.int .i64 N, .slice A n c] 24)
namespace RBox
variable {w w' : World} {b n c : Nat} {N : Int} {A : Option Addr}
theorem new (w : World) (N : Int) (A : Option Addr) (n c : Nat) : RBox (w.alloc (.cells #[.int .i64 N, .slice A n c] 24)) w.heap.size N A n c := by
  show (w.heap.push _)[w.heap.size]? = _
  simp
theorem cell (h : RBox w b N A n c) : w.cell? ⟨b, 0, none⟩ = some (.int .i64 N) ∧ w.cell? ⟨b, 1, none⟩ = some (.slice A n c) := ⟨Go.Joins.cell_of_block h 0, Go.Joins.cell_of_block h 1⟩
theorem lt (h : RBox w b N A n c) : b < w.heap.size := (Array.getElem?_eq_some_iff.1 h).1
theorem free (h : RBox w b N A n c) (k : Nat) : w.frozen? ⟨b, k, none⟩ = false := Go.Joins.unfrozen_of_block h k
theorem below {B : Nat} (h : RBox w b N A n c) (hb : Below B w w') (hlt : b < B) : RBox w' b N A n c := (hb.block b hlt).trans h
theorem grown {row : Option Nat} (h : RBox w b N A n c) (hg : w.grownBy w' row) (hne : some b ≠ row) : RBox w' b N A n c := (hg.block b h.lt hne).trans h
theorem drew (h : RBox w b N A n c) : RBox w.drew b N A n c := h
theorem drewN (h : RBox w b N A n c) (q : Nat) : RBox (w.drewN q) b N A n c := h
theorem alloc (h : RBox w b N A n c) (o : Obj) : RBox (w.alloc o) b N A n c := h.below ((Below.refl w.heap.size w).alloc (Nat.le_refl _) o) h.lt
theorem setFar (h : RBox w b N A n c) {a : Addr} (hne : b ≠ a.block) (u : Value) : RBox (w.setCell a u) b N A n c := (Below.heap_setCell w a u b hne).trans h
/-- other words in the box -/
theorem set1 (h : RBox w b N A n c) (A' : Option Addr) (n' c' : Nat) : RBox (w.setCell ⟨b, 1, none⟩ (.slice A' n' c')) b N A' n' c' := by
  unfold RBox at *
  simp only [World.setCell, Array.getElem?_modify, h]
  simp
end RBox

theorem ROwn.setFar {α : Type} {f : α → Value} {e : TypeId} {w : World} {base : Nat} {A : Option Addr} {n c : Nat} {l : List α} (h : ROwn f e w base A n c l) {a : Addr} (ha : a.block < base) (u : Value) : ROwn f e (w.setCell a u) base A n c l :=
  ownsRow_setCell_below h ha u
theorem SetPost.no {w w' : World} {r : (Int × List UInt64) × Nat} (hr : r = ((0, []), 1)) (hb : Below w.heap.size w w') : SetPost w r (.returned (.tuple #[rval 0 none 0 0, .int .i64 1])) w' := by
  subst hr
  exact ⟨none, 0, rfl, nown_none _ _, hb⟩
theorem SetPost.yes {w w' : World} {r : (Int × List UInt64) × Nat} {N : Int} {ws : List UInt64} {n c : Nat} {A : Option Addr} (hr : r = ((N, ws), 0)) (hn : ws.length = n) (ho : NOwn w' w.heap.size A n c ws) (hb : Below w.heap.size w w') :
    SetPost w r (.returned (.tuple #[rval N A n c, .int .i64 0])) w' := by
  subst hr hn
  exact ⟨A, c, rfl, ho, hb⟩
end Go.Proofs.YtggelnlbdpdegaaDoor
