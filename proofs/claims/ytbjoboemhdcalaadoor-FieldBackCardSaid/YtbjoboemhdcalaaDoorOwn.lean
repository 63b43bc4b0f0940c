/- A byte slice of a call's own: how it is made, appended to, and kept. -/
import Derived.Test.YtbjoboemhdcalaaDoorWords
import Derived.OwnWalk
import Derived.KernelRfl
namespace Go.Proofs.YtbjoboemhdcalaaDoor
open Go.RowKit
set_option maxRecDepth 100000

theorem byte_info : (Tryd.prog.info? 5).map (fun i => (i.zero, i.size, i.bytes)) = some (some (.int .u8 0), 1, 1) := by kernel_rfl

/-- The slice at A, of n bytes, is the bytes l, in a block from 'base' on that nothing else holds. -/
def Own (w : World) (base : Nat) (A : Option Addr) (n c : Nat) (l : List UInt8) : Prop := w.ownsRow base 5 1 (.slice A n c) n (bvals l)

/-- the block of a slice -/
def blk (A : Option Addr) : Option Nat := A.map (·.block)
theorem ownBlock_eq (A : Option Addr) (n c : Nat) : (Value.slice A n c).ownBlock = blk A := by cases A <;> rfl

namespace Own
variable {w w' : World} {base : Nat} {A : Option Addr} {n c : Nat} {l : List UInt8}
theorem len (h : Own w base A n c l) : l.length = n := by have := h.1; rw [bvals_length] at this; omega
theorem bytes (h : Own w base A n c l) : Bytes w w.heap.size A l := Bytes.of_own h
theorem lt (h : Own w base A n c l) {k : Nat} (hk : blk A = some k) : base ≤ k ∧ k < w.heap.size := World.ownsRow.lt h k (by rw [ownBlock_eq]; exact hk)
theorem kept {row : Option Nat} (h : Own w base A n c l) (hg : w.grownBy w' row) (hne : blk A = none ∨ blk A ≠ row) : Own w' base A n c l :=
  World.ownsRow.kept h hg (by rw [ownBlock_eq]; exact hne)
theorem drew (h : Own w base A n c l) : Own w.drew base A n c l := h
theorem alloc (h : Own w base A n c l) (o : Obj) : Own (w.alloc o) base A n c l := World.ownsRow.alloc h o
theorem low {b' : Nat} (h : Own w base A n c l) (hb : b' ≤ base) : Own w b' A n c l := by
  refine ⟨h.1, ?_⟩
  rcases h.2 with h2 | ⟨g, cap, cur, h1, h2, r⟩
  · exact .inl h2
  · exact .inr ⟨g, cap, cur, h1, Nat.le_trans hb h2, r⟩
theorem below (h : Own w base A n c l) (hb : Below w.heap.size w w') : Own w' base A n c l := by
  refine ⟨h.1, ?_⟩
  rcases h.2 with h2 | ⟨g, cap, cur, h1, h2, h3, r⟩
  · exact .inl h2
  · have hlt : g < w.heap.size := by
      rcases Nat.lt_or_ge g w.heap.size with hlt | hge
      · exact hlt
      · rw [Array.getElem?_eq_none hge] at h3; cases h3
    exact .inr ⟨g, cap, cur, h1, h2, (hb.block g hlt).trans h3, r⟩
end Own

/-- where it lies, if it isn't empty -/
theorem Own.at_ {w : World} {base : Nat} {A : Option Addr} {n c : Nat} {l : List UInt8} (h : Own w base A n c l) (hn : 0 < n) : ∃ g, A = some ⟨g, 0, none⟩ ∧ base ≤ g ∧ g < w.heap.size := by
  obtain ⟨g, cap, hv, hb, hlt⟩ := World.ownsRow.form h hn
  injection hv with h1
  exact ⟨g, h1, hb, hlt⟩
theorem Own.cell {w : World} {base g : Nat} {n c : Nat} {l : List UInt8} (h : Own w base (some ⟨g, 0, none⟩) n c l) {k : Nat} (hk : k < l.length) : w.cell? ⟨g, k, none⟩ = some (.int .u8 (l[k].toNat : Int)) := by
  have := World.ownsRow.cellAt h k (by rw [Nat.mul_one, ← h.len]; exact hk)
  rw [this]
  simp [bvals, List.getElem?_eq_getElem hk, bval]
theorem Own.free {w : World} {base g : Nat} {n c : Nat} {l : List UInt8} (h : Own w base (some ⟨g, 0, none⟩) n c l) (k : Nat) : w.frozen? ⟨g, k, none⟩ = false := World.ownsRow.frozenAt h k
/-- a byte stored -/
theorem Own.store {w : World} {base g : Nat} {n c : Nat} {l : List UInt8} (h : Own w base (some ⟨g, 0, none⟩) n c l) (k : Nat) (b : UInt8) :
    Own (w.setCell ⟨g, k, none⟩ (bval b)) base (some ⟨g, 0, none⟩) n c (l.set k b) := by
  have := (World.ownsRow.stored h k (bval b)).1
  unfold Own
  rw [show bvals (l.set k b) = (bvals l).set k (bval b) from by simp [bvals]]
  exact this

/-- nil -/
theorem own_none (w : World) (base : Nat) : Own w base none 0 0 [] := World.ownsRow_nil w base _ _
/-- a made slice with nothing in it -/
theorem own_made (w : World) (base : Nat) (cur : Array Value) (cap : Nat) (hb : base ≤ w.heap.size) (hm : cap ≤ maxLen) (hs : cur.size = cap) :
    Own (w.alloc (.cells cur 5)) base (some ⟨w.heap.size, 0, none⟩) 0 cap [] := World.ownsRow_made w cur cap hb hm (by omega)
/-- a literal -/
theorem own_lit (w : World) (base : Nat) (l : List UInt8) (hb : base ≤ w.heap.size) (hm : l.length ≤ maxLen) :
    Own (w.alloc (.cells (bvals l).toArray 5)) base (some ⟨w.heap.size, 0, none⟩) l.length l.length l := by
  have h := World.ownsRow_lit (e := 5) (size := 1) w (bvals l).toArray l.length hb hm (by simp [bvals])
  exact h

set_option maxRecDepth 100000 in
theorem run_append_bytes (w : World) (base : Nat) (ty : TypeId) (A : Option Addr) (n c : Nat) (l : List UInt8) (hown : Own w base A n c l)
    (B : Nat) (A2 : Option Addr) (m c2 : Nat) (l2 : List UInt8) (hl2 : l2.length = m) (hb : Bytes w B A2 l2) (hbytes : n + m ≤ 140737488355328) (hbase : base ≤ w.heap.size) :
    ∃ A' c' w', (Builtin.append_ #[31, 31] ty #[.slice A n c, .slice A2 m c2]).run Tryd.prog w = .ok (.slice A' (n + m) c') w' ∧
      Own w' base A' (n + m) c' (l ++ l2) ∧ w.grownBy w' (blk A) ∧ (blk A' = blk A ∨ blk A' = some w.heap.size) := by
  obtain ⟨i0, hi0, hz0, hz1, hz2⟩ := info_parts byte_info
  rcases A2 with _ | ad
  · have hm : l2 = [] := by
      rcases Classical.em (l2 = []) with h | h
      · exact h
      · obtain ⟨_, h, _⟩ := hb h; cases h
    subst hm
    obtain rfl : 0 = m := by simpa using hl2
    refine ⟨A, c, w, ?_, by simpa using hown, World.grownBy.refl w _, .inl rfl⟩
    rcases hown.2 with ⟨hv, rfl⟩ | ⟨g, cap, cur, hv, _, _, hnc, _⟩
    · injection hv with h1 _ h3
      subst h1 h3
      simp [Builtin.append_, run_underlying Tryd.underlying31, sizeOf, typeInfo, hi0, Builtin.lenOf, Builtin.firstCells]
    · injection hv with h1 h2 h3
      subst h1 h3
      simp [Builtin.append_, run_underlying Tryd.underlying31, sizeOf, typeInfo, hi0, Builtin.lenOf, Builtin.firstCells, hnc, storeCells]
  · obtain ⟨v', w', hrun, h2, h3, _, h5⟩ := run_append_own_at (P := Tryd.prog) w base 31 ty 5 i0 _ 1 1 Tryd.underlying31 hi0 hz0 hz1 hz2 rfl (by omega) (.slice A n c) n (bvals l) hown
      ad m c2 (bvals l2) (by rw [bvals_length]; omega) hb.news (bvals_one l2) (by simp only [maxLen]; omega) (by omega) hbase
    rw [← bvals_append] at h2
    rw [ownBlock_eq] at h3 h5
    rcases h2.2 with ⟨rfl, h0⟩ | ⟨g, cap, cur, rfl, _⟩
    · refine ⟨none, 0, w', ?_, ?_, h3, h5⟩
      · rw [h0]; exact hrun
      · unfold Own; rw [h0] at h2 ⊢; exact h2
    · exact ⟨_, cap, w', hrun, h2, h3, h5⟩

theorem wpList_append_bytes {w : World} {ops : Array Oper} {rest : List Oper} {o : Oper} {a : Act} {Q : Exit → Act → World → Prop} (hw : Region.wanted o (yielded ops a.tmps) = true) (s x : Operand)
    (ho : o.op = .call { callee := .builtin .append, args := #[s, x], argTypes := #[31, 31] })
    (base : Nat) (A : Option Addr) (n c : Nat) (l : List UInt8) (hs : a.eval s = .slice A n c) (hown : Own w base A n c l)
    (B : Nat) (A2 : Option Addr) (m c2 : Nat) (l2 : List UInt8) (hx : a.eval x = .slice A2 m c2) (hl2 : l2.length = m) (hb : Bytes w B A2 l2) (hbytes : n + m ≤ 140737488355328) (hbase : base ≤ w.heap.size)
    (h : ∀ A' c' w', Own w' base A' (n + m) c' (l ++ l2) → w.grownBy w' (blk A) → (blk A' = blk A ∨ blk A' = some w.heap.size) → wpList Tryd.prog ops Q rest (a.put o.dst (.slice A' (n + m) c')) w') :
    wpList Tryd.prog ops Q (o :: rest) a w := by
  obtain ⟨A', c', w', hrun, h2, h3, h4⟩ := run_append_bytes w base o.type A n c l hown B A2 m c2 l2 hl2 hb hbytes hbase
  refine wpList_step fun K hK => ?_
  rw [if_pos hw]
  unfold Oper.wp execOp
  simp only [ho, resolve, invoke, builtin, Sem.run_bind, Sem.run_pure, Result.andThen_ok, List.map_toArray, List.map_cons, List.map_nil, hs, hx, hrun]
  exact hK _ _ (h A' c' w' h2 h3 h4)
end Go.Proofs.YtbjoboemhdcalaaDoor
