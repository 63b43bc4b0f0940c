/- An append at a step of a region that draws its order; small literals of bytes. -/
import Derived.Test.YtmcioglidgbibaaOwn
import Derived.Test.YtmcioglidgbibaaNum
namespace Go.Proofs.Ytmcioglidgbibaa
open Go.RowKit
set_option maxRecDepth 100000

/-- append at a step of a region that draws its order -/
theorem step_append_bytes {w : World} {ops : Array Oper} {o : Oper} {a : Act} {K : Act → World → Prop} {Q : Exit → Act → World → Prop} {E : Prop} (hw : Region.wanted o (yielded ops a.tmps) = true) (s x : Operand)
    (ho : o.op = .call { callee := .builtin .append, args := #[s, x], argTypes := #[24, 24] })
    (base : Nat) (A : Option Addr) (n c : Nat) (l : List UInt8) (hs : a.eval s = .slice A n c) (hown : Own w base A n c l)
    (B : Nat) (A2 : Option Addr) (m c2 : Nat) (l2 : List UInt8) (hx : a.eval x = .slice A2 m c2) (hl2 : l2.length = m) (hb : Bytes w B A2 l2) (hbytes : n + m ≤ 140737488355328) (hbase : base ≤ w.heap.size)
    (h : ∀ A' c' w', Own w' base A' (n + m) c' (l ++ l2) → w.grownBy w' (blk A) → (blk A' = blk A ∨ blk A' = some w.heap.size) → K (a.put o.dst (.slice A' (n + m) c')) w') :
    if Region.wanted o (yielded ops a.tmps) = true then Oper.wp Try.prog o a w K Q else E := by
  obtain ⟨A', c', w', hrun, h2, h3, h4⟩ := run_append_bytes w base o.type A n c l hown B A2 m c2 l2 hl2 hb hbytes hbase
  rw [if_pos hw]
  unfold Oper.wp execOp
  simp only [ho, resolve, invoke, builtin, Sem.run_bind, Sem.run_pure, Result.andThen_ok, List.map_toArray, List.map_cons, List.map_nil, hs, hx, hrun]
  exact h A' c' w' h2 h3 h4

theorem own_byte (w : World) (b : UInt8) (x : Int) (h : bval b = .int .u8 x) : Own (w.alloc (.cells #[.int .u8 x] 5)) w.heap.size (some ⟨w.heap.size, 0, none⟩) 1 1 [b] := by
  have h1 := own_lit w w.heap.size [b] (Nat.le_refl _) (by simp [maxLen])
  rw [show (bvals [b]).toArray = #[bval b] from rfl, h] at h1
  exact h1
theorem own_byte2 (w : World) (b d : UInt8) (x y : Int) (h : bval b = .int .u8 x) (h2 : bval d = .int .u8 y) : Own (w.alloc (.cells #[.int .u8 x, .int .u8 y] 5)) w.heap.size (some ⟨w.heap.size, 0, none⟩) 2 2 [b, d] := by
  have h1 := own_lit w w.heap.size [b, d] (Nat.le_refl _) (by simp [maxLen])
  rw [show (bvals [b, d]).toArray = #[bval b, bval d] from rfl, h, h2] at h1
  exact h1
theorem bval_lt {x : Nat} (h : x < 256) : bval (UInt8.ofNat x) = .int .u8 (x : Int) := by unfold bval; rw [Num.toNat_ofNat, Nat.mod_eq_of_lt h]
end Go.Proofs.Ytmcioglidgbibaa
