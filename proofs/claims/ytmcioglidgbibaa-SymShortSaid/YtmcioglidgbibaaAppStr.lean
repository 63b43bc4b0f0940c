/- A string's bytes appended to a byte slice of one's own. -/
import Derived.Test.YtmcioglidgbibaaOwn
import Derived.Lib.AppendStr
namespace Go.Proofs.Ytmcioglidgbibaa
open Go.RowKit
set_option maxRecDepth 100000

theorem run_append_str (w : World) (base : Nat) (ty : TypeId) (A : Option Addr) (n c : Nat) (l : List UInt8) (hown : Own w base A n c l) (s : List UInt8) (hbytes : n + s.length ≤ 140737488355328) (hbase : base ≤ w.heap.size) :
    ∃ A' c' w', (Builtin.append_ #[24, 9] ty #[.slice A n c, .string ⟨s.toArray⟩]).run Try.prog w = .ok (.slice A' (n + s.length) c') w' ∧
      Own w' base A' (n + s.length) c' (l ++ s) ∧ w.grownBy w' (blk A) := by
  obtain ⟨i0, hi0, hz0, hz1, hz2⟩ := info_parts byte_info
  have hsz : (⟨s.toArray⟩ : ByteArray).size = s.length := by rw [ByteArray.size, List.size_toArray]
  obtain ⟨v', w', hrun, h2, h3, _⟩ := Lib.run_append_own_string (P := Try.prog) w base 24 9 ty 5 i0 Try.underlying24 Try.underlying9 hi0 hz0 hz1 hz2 (.slice A n c) n (bvals l) hown ⟨s.toArray⟩ (by rw [hsz]; simp only [maxLen]; omega) (by rw [hsz]; exact hbytes) hbase
  rw [hsz] at h2
  have hcells : Lib.strCells ⟨s.toArray⟩ = bvals s := rfl
  rw [hcells, ← bvals_append] at h2
  rw [ownBlock_eq] at h3
  rcases h2.2 with ⟨rfl, h0⟩ | ⟨g, cap, cur, rfl, _⟩
  · refine ⟨none, 0, w', ?_, ?_, h3⟩
    · rw [h0]; exact hrun
    · unfold Own; rw [h0] at h2 ⊢; exact h2
  · exact ⟨_, cap, w', hrun, h2, h3⟩

theorem wpList_append_str {w : World} {ops : Array Oper} {rest : List Oper} {o : Oper} {a : Act} {Q : Exit → Act → World → Prop} (hw : Region.wanted o (yielded ops a.tmps) = true) (s x : Operand)
    (ho : o.op = .call { callee := .builtin .append, args := #[s, x], argTypes := #[24, 9] })
    (base : Nat) (A : Option Addr) (n c : Nat) (l : List UInt8) (hs : a.eval s = .slice A n c) (hown : Own w base A n c l)
    (l2 : List UInt8) (hx : a.eval x = .string ⟨l2.toArray⟩) (hbytes : n + l2.length ≤ 140737488355328) (hbase : base ≤ w.heap.size)
    (h : ∀ A' c' w', Own w' base A' (n + l2.length) c' (l ++ l2) → w.grownBy w' (blk A) → wpList Try.prog ops Q rest (a.put o.dst (.slice A' (n + l2.length) c')) w') :
    wpList Try.prog ops Q (o :: rest) a w := by
  obtain ⟨A', c', w', hrun, h2, h3⟩ := run_append_str w base o.type A n c l hown l2 hbytes hbase
  refine wpList_step fun K hK => ?_
  rw [if_pos hw]
  unfold Oper.wp execOp
  simp only [ho, resolve, invoke, builtin, Sem.run_bind, Sem.run_pure, Result.andThen_ok, List.map_toArray, List.map_cons, List.map_nil, hs, hx, hrun]
  exact hK _ _ (h A' c' w' h2 h3)

theorem step_append_str {w : World} {ops : Array Oper} {o : Oper} {a : Act} {K : Act → World → Prop} {Q : Exit → Act → World → Prop} {E : Prop} (hw : Region.wanted o (yielded ops a.tmps) = true) (s x : Operand)
    (ho : o.op = .call { callee := .builtin .append, args := #[s, x], argTypes := #[24, 9] })
    (base : Nat) (A : Option Addr) (n c : Nat) (l : List UInt8) (hs : a.eval s = .slice A n c) (hown : Own w base A n c l)
    (l2 : List UInt8) (hx : a.eval x = .string ⟨l2.toArray⟩) (hbytes : n + l2.length ≤ 140737488355328) (hbase : base ≤ w.heap.size)
    (h : ∀ A' c' w', Own w' base A' (n + l2.length) c' (l ++ l2) → w.grownBy w' (blk A) → K (a.put o.dst (.slice A' (n + l2.length) c')) w') :
    if Region.wanted o (yielded ops a.tmps) = true then Oper.wp Try.prog o a w K Q else E := by
  obtain ⟨A', c', w', hrun, h2, h3⟩ := run_append_str w base o.type A n c l hown l2 hbytes hbase
  rw [if_pos hw]
  unfold Oper.wp execOp
  simp only [ho, resolve, invoke, builtin, Sem.run_bind, Sem.run_pure, Result.andThen_ok, List.map_toArray, List.map_cons, List.map_nil, hs, hx, hrun]
  exact h A' c' w' h2 h3
end Go.Proofs.Ytmcioglidgbibaa
