/- A slice of ints of a call's own. -/
import Derived.Test.YtgjofpjijnbjeaaDoorListOwn
namespace Go.Proofs.YtgjofpjijnbjeaaDoor
open Go.RowKit

theorem int_info : (Tryd.prog.info? 3).map (fun i => (i.zero, i.size, i.bytes)) = some (some (.int .i64 0), 1, 8) := by kernel_rfl

def IntsOwn (w : World) (base : Nat) (A : Option Addr) (n c : Nat) (es : List Int) : Prop := w.ownsRow base 3 1 (.slice A n c) n (es.map (Value.int .i64))
namespace IntsOwn
variable {w w' : World} {base : Nat} {A : Option Addr} {n c : Nat} {es : List Int}
theorem nil (w : World) (base : Nat) : IntsOwn w base none 0 0 [] := World.ownsRow_nil w base _ 1
theorem len (h : IntsOwn w base A n c es) : es.length = n := by have := h.1; simp at this; omega
theorem below (h : IntsOwn w base A n c es) (hb : Below w.heap.size w w') : IntsOwn w' base A n c es := ownsRow_below h hb
theorem get (h : IntsOwn w base A n c es) {k : Nat} (hk : k < es.length) : ∃ g, A = some ⟨g, 0, none⟩ ∧ w.cell? ⟨g, k, none⟩ = some (.int .i64 es[k]) := by
  have hl := h.len
  obtain ⟨g, cap, hv, _, hlt⟩ := World.ownsRow.form h (by omega)
  have hA : A = some ⟨g, 0, none⟩ := by injection hv
  subst hA
  refine ⟨g, rfl, ?_⟩
  rw [World.ownsRow.cellAt h k (by omega)]
  simp [List.getElem?_eq_getElem hk]
end IntsOwn

theorem run_append_int (w : World) (base : Nat) (ty : TypeId) (A : Option Addr) (n c : Nat) (es : List Int) (hown : IntsOwn w base A n c es) (x : Int) (hbytes : (n + 1) * 8 ≤ 140737488355328) (hbase : base ≤ w.heap.size) :
    ∃ A' c' w', (Builtin.append_ #[40, 40] ty #[.slice A n c, .slice (some ⟨w.heap.size, 0, none⟩) 1 1]).run Tryd.prog (w.alloc (.cells #[.int .i64 x] 3)) = .ok (.slice A' (n + 1) c') w' ∧
      IntsOwn w' base A' (n + 1) c' (es ++ [x]) ∧ Below base w w' ∧ (∀ {Ai : Option Addr} {m ci : Nat} {l : List UInt8}, Own w base Ai m ci l → Own w' base Ai m ci l) := by
  obtain ⟨i0, hi0, hz0, hz1, hz2⟩ := info_parts int_info
  have h1' : (w.alloc (.cells #[.int .i64 x] 3)).ownsRow base 3 1 (.slice A n c) n (es.map (Value.int .i64)) := World.ownsRow.alloc hown _
  obtain ⟨v', w', hrun, o2, g3, _, h5⟩ := run_append_own_at (P := Tryd.prog) (w.alloc (.cells #[.int .i64 x] 3)) base 40 ty 3 i0 _ 1 8 Tryd.underlying40 hi0 hz0 hz1 hz2 rfl (by omega)
    (.slice A n c) n (es.map (Value.int .i64)) h1' ⟨w.heap.size, 0, none⟩ 1 1 [.int .i64 x] rfl (cell_one_new _ _ _) (by intro u hu; simp at hu; subst hu; rfl) (by simp only [maxLen]; omega) hbytes (by simp; omega)
  have hlow : ∀ k, (Value.slice A n c).ownBlock = some k → base ≤ k := fun k hk => (World.ownsRow.lt hown k hk).1
  obtain ⟨g, cap, rfl, _, _⟩ := o2.form (by omega)
  refine ⟨_, cap, w', hrun, ?_, ((Below.refl _ _).alloc hbase _).grown g3 (by simp; omega) hlow, fun {Ai m ci l} ho => ?_⟩
  · unfold IntsOwn
    rw [List.map_append]
    exact o2
  · have ho' := ho.alloc (.cells #[.int .i64 x] 3)
    exact ho'.kept (row := (Value.slice A n c).ownBlock) g3 (by have := rows_apart ho' h1' (by decide); rwa [ownBlock_eq] at this)

theorem wpList_append_int {w : World} {ops : Array Oper} {rest : List Oper} {o : Oper} {a : Act} {Q : Exit → Act → World → Prop} (hw : Region.wanted o (yielded ops a.tmps) = true) (s x : Operand)
    (ho : o.op = .call { callee := .builtin .append, args := #[s, x], argTypes := #[40, 40] })
    (base : Nat) (A : Option Addr) (n c : Nat) (es : List Int) (hs : a.eval s = .slice A n c) (hown : IntsOwn w base A n c es)
    (y : Int) (hx : a.eval x = .slice (some ⟨w.heap.size, 0, none⟩) 1 1) (hbytes : (n + 1) * 8 ≤ 140737488355328) (hbase : base ≤ w.heap.size)
    (h : ∀ A' c' w', IntsOwn w' base A' (n + 1) c' (es ++ [y]) → Below base w w' → (∀ {Ai : Option Addr} {m ci : Nat} {l : List UInt8}, Own w base Ai m ci l → Own w' base Ai m ci l) → wpList Tryd.prog ops Q rest (a.put o.dst (.slice A' (n + 1) c')) w') :
    wpList Tryd.prog ops Q (o :: rest) a (w.alloc (.cells #[.int .i64 y] 3)) := by
  obtain ⟨A', c', w', hrun, h2, h3, h4⟩ := run_append_int w base o.type A n c es hown y hbytes hbase
  refine wpList_step fun K hK => ?_
  rw [if_pos hw]
  unfold Oper.wp execOp
  simp only [ho, resolve, invoke, builtin, Sem.run_bind, Sem.run_pure, Result.andThen_ok, List.map_toArray, List.map_cons, List.map_nil, hs, hx, hrun]
  exact hK _ _ (h A' c' w' h2 h3 h4)
/-- ints of one's own, while bytes are appended elsewhere -/
theorem IntsOwn.kept {w w' : World} {base : Nat} {A A2 : Option Addr} {n c n2 c2 : Nat} {es : List Int} {l : List UInt8} (h : IntsOwn w base A n c es) (ho : Own w base A2 n2 c2 l) (hg : w.grownBy w' (blk A2)) : IntsOwn w' base A n c es :=
  World.ownsRow.kept h hg (by have := rows_apart h ho (by decide); rwa [ownBlock_eq A2] at this)
end Go.Proofs.YtgjofpjijnbjeaaDoor
