/- Slices of fields: of one's own, appended to, read. -/
import Derived.Test.YtbjoboemhdcalaaDoorFldNum
import Derived.Test.YtbjoboemhdcalaaDoorRow
import Derived.Laws.OwnMore
import Derived.Laws.Slices
import Derived.Lib.BufferOwn
namespace Go.Proofs.YtbjoboemhdcalaaDoor
open Go.RowKit
set_option maxRecDepth 100000

theorem field_info : (Tryd.prog.info? 27).map (fun i => (i.zero, i.size, i.bytes)) = some (some (.agg #[.string ⟨#[]⟩, .int .i64 0, .int .i64 0, .string ⟨#[]⟩]), 4, 48) := by kernel_rfl
/-- the cells of a field -/
def fcell (f : Fld.F) : List Value := [.string ⟨f.key.toArray⟩, .int .i64 f.kind, .int .i64 f.int, .string ⟨f.text.toArray⟩]
def fcells : List Fld.F → List Value
  | [] => []
  | f :: r => fcell f ++ fcells r
theorem fcells_length : ∀ (fs : List Fld.F), (fcells fs).length = fs.length * 4
  | [] => rfl
  | f :: r => by simp only [fcells, List.length_append, fcells_length r, List.length_cons]; simp [fcell]; omega
theorem fcells_snoc (f : Fld.F) : ∀ (fs : List Fld.F), fcells (fs ++ [f]) = fcells fs ++ fcell f
  | [] => by simp [fcells]
  | g :: r => by simp only [List.cons_append, fcells, fcells_snoc f r, List.append_assoc]
theorem fcells_at : ∀ (fs : List Fld.F) (k : Nat) (h : k < fs.length) (j : Nat), j < 4 → (fcells fs)[k * 4 + j]? = (fcell fs[k])[j]?
  | [], k, h, _, _ => by cases h
  | f :: r, 0, _, j, hj => by
    simp only [fcells, Nat.zero_mul, Nat.zero_add, List.getElem_cons_zero]
    rw [List.getElem?_append_left (by simpa [fcell] using hj)]
  | f :: r, k + 1, h, j, hj => by
    have := fcells_at r k (by simpa using h) j hj
    simp only [fcells, List.getElem_cons_succ]
    rw [List.getElem?_append_right (by simp [fcell]; omega), ← this]
    congr 1
    simp [fcell]; omega

/-- A slice of fields; of an empty one nothing is asked. -/
def Flds (w : World) (A : Option Addr) (fs : List Fld.F) : Prop :=
  fs ≠ [] → ∃ g, A = some ⟨g, 0, none⟩ ∧ g < w.heap.size ∧ ∀ k, (h : k < fs.length) → w.cell? ⟨g, k * 4, none⟩ = some (.string ⟨fs[k].key.toArray⟩) ∧ w.cell? ⟨g, k * 4 + 1, none⟩ = some (.int .i64 fs[k].kind) ∧ w.cell? ⟨g, k * 4 + 2, none⟩ = some (.int .i64 fs[k].int) ∧ w.cell? ⟨g, k * 4 + 3, none⟩ = some (.string ⟨fs[k].text.toArray⟩)
namespace Flds
variable {w w' : World} {A : Option Addr} {fs : List Fld.F}
theorem get (h : Flds w A fs) {k : Nat} (hk : k < fs.length) : ∃ g, A = some ⟨g, 0, none⟩ ∧ g < w.heap.size ∧ w.cell? ⟨g, k * 4, none⟩ = some (.string ⟨fs[k].key.toArray⟩) ∧ w.cell? ⟨g, k * 4 + 1, none⟩ = some (.int .i64 fs[k].kind) ∧ w.cell? ⟨g, k * 4 + 2, none⟩ = some (.int .i64 fs[k].int) ∧ w.cell? ⟨g, k * 4 + 3, none⟩ = some (.string ⟨fs[k].text.toArray⟩) := by
  obtain ⟨g, ha, hg, hc⟩ := h (fun e => by subst e; simp at hk)
  exact ⟨g, ha, hg, hc k hk⟩
theorem below (h : Flds w A fs) (hb : Below w.heap.size w w') : Flds w' A fs := fun hn => by
  obtain ⟨g, ha, hg, hc⟩ := h hn
  refine ⟨g, ha, Nat.lt_of_lt_of_le hg hb.size, fun k hk => ?_⟩
  have hx : ∀ j, w'.cell? ⟨g, j, none⟩ = w.cell? ⟨g, j, none⟩ := fun j => hb.cell hg
  rw [hx, hx, hx, hx]
  exact hc k hk
theorem drawn (h : Flds w A fs) (hd : Drawn w w') : Flds w' A fs := by
  obtain ⟨q, rfl⟩ := hd
  exact h
theorem take (h : Flds w A fs) (n : Nat) : Flds w A (fs.take n) := fun hn => by
  obtain ⟨g, ha, hg, hc⟩ := h (fun e => hn (by subst e; simp))
  refine ⟨g, ha, hg, fun k hk => ?_⟩
  rw [List.getElem_take]
  exact hc k (by simp at hk; omega)
end Flds

/-- The slice at A, of n fields, is that of fs, in a block from 'base' on that nothing else holds. -/
def FOwn (w : World) (base : Nat) (A : Option Addr) (n c : Nat) (fs : List Fld.F) : Prop := w.ownsRow base 27 4 (.slice A n c) n (fcells fs)
namespace FOwn
variable {w w' : World} {base : Nat} {A : Option Addr} {n c : Nat} {fs : List Fld.F}
theorem nil (w : World) (base : Nat) : FOwn w base none 0 0 [] := World.ownsRow_nil w base _ 4
theorem len (h : FOwn w base A n c fs) : fs.length = n := by have := h.1; rw [fcells_length] at this; omega
theorem lt (h : FOwn w base A n c fs) {k : Nat} (hk : blk A = some k) : base ≤ k ∧ k < w.heap.size := World.ownsRow.lt h k (by rw [ownBlock_eq]; exact hk)
theorem kept {row : Option Nat} (h : FOwn w base A n c fs) (hg : w.grownBy w' row) (hne : blk A = none ∨ blk A ≠ row) : FOwn w' base A n c fs :=
  World.ownsRow.kept h hg (by rw [ownBlock_eq]; exact hne)
theorem alloc (h : FOwn w base A n c fs) (o : Obj) : FOwn (w.alloc o) base A n c fs := World.ownsRow.alloc h o
theorem below (h : FOwn w base A n c fs) (hb : Below w.heap.size w w') : FOwn w' base A n c fs :=
  h.kept (row := none) ⟨hb.os, hb.tape, hb.output, hb.size, fun j hj _ => hb.block j hj⟩ (by cases A <;> simp [blk])
theorem drawn (h : FOwn w base A n c fs) (hd : Drawn w w') : FOwn w' base A n c fs := by
  obtain ⟨q, rfl⟩ := hd
  exact h
theorem low {b' : Nat} (h : FOwn w base A n c fs) (hb : b' ≤ base) : FOwn w b' A n c fs := by
  refine ⟨h.1, ?_⟩
  rcases h.2 with h2 | ⟨g, cap, cur, h1, h2, r⟩
  · exact .inl h2
  · exact .inr ⟨g, cap, cur, h1, Nat.le_trans hb h2, r⟩
theorem cap (h : FOwn w base A n c fs) : n ≤ c := by
  rcases h.2 with ⟨_, rfl⟩ | ⟨g, cap, cur, hv, _, _, hnc, _⟩
  · omega
  · injection hv with _ _ h3
    omega
theorem flds (h : FOwn w base A n c fs) : Flds w A fs := fun hn => by
  have hl := h.len
  have h0 : 0 < n := by
    rcases Nat.eq_zero_or_pos n with h0 | h0
    · exact absurd (List.eq_nil_of_length_eq_zero (by omega)) hn
    · exact h0
  obtain ⟨g, cap, hv, _, hlt⟩ := World.ownsRow.form h h0
  injection hv with h1
  subst h1
  refine ⟨g, rfl, hlt, fun k hk => ?_⟩
  have hx : ∀ j, j < 4 → w.cell? ⟨g, k * 4 + j, none⟩ = (fcell fs[k])[j]? := fun j hj => by
    rw [World.ownsRow.cellAt h (k * 4 + j) (by omega), fcells_at fs k hk j hj]
  exact ⟨hx 0 (by omega), hx 1 (by omega), hx 2 (by omega), hx 3 (by omega)⟩
end FOwn

theorem run_append_field (w : World) (base : Nat) (ty : TypeId) (A : Option Addr) (n c : Nat) (fs : List Fld.F) (hown : FOwn w base A n c fs) (g2 : Nat) (f : Fld.F)
    (h0 : w.cell? ⟨g2, 0, none⟩ = some (.string ⟨f.key.toArray⟩)) (h1 : w.cell? ⟨g2, 1, none⟩ = some (.int .i64 f.kind)) (h2 : w.cell? ⟨g2, 2, none⟩ = some (.int .i64 f.int)) (h3 : w.cell? ⟨g2, 3, none⟩ = some (.string ⟨f.text.toArray⟩)) (hbytes : n < 1000) (hbase : base ≤ w.heap.size) :
    ∃ A' c' w', (Builtin.append_ #[36, 36] ty #[.slice A n c, .slice (some ⟨g2, 0, none⟩) 1 1]).run Tryd.prog w = .ok (.slice A' (n + 1) c') w' ∧
      FOwn w' base A' (n + 1) c' (fs ++ [f]) ∧ w.grownBy w' (blk A) := by
  obtain ⟨i0, hi0, hz0, hz1, hz2⟩ := info_parts field_info
  have hl := hown.len
  obtain ⟨v', w', hrun, h2, h3, _, h5⟩ := run_append_own_at (P := Tryd.prog) w base 36 ty 27 i0 _ 4 48 Tryd.underlying36 hi0 hz0 hz1 hz2 rfl (by omega) (.slice A n c) n (fcells fs) hown
    ⟨g2, 0, none⟩ 1 1 (fcell f) rfl (fun j u hu => by
      rcases j with _ | _ | _ | _ | j
      · simp [fcell] at hu; rw [← hu]; simpa [Addr.add] using h0
      · simp [fcell] at hu; rw [← hu]; simpa [Addr.add] using h1
      · simp [fcell] at hu; rw [← hu]; simpa [Addr.add] using h2
      · simp [fcell] at hu; rw [← hu]; simpa [Addr.add] using h3
      · simp [fcell] at hu) (by intro u hu; simp only [fcell, List.mem_cons, List.not_mem_nil, or_false] at hu; rcases hu with rfl | rfl | rfl | rfl <;> rfl) (by simp only [maxLen]; omega) (by omega) hbase
  rw [← fcells_snoc] at h2
  rw [ownBlock_eq] at h3
  rcases h2.2 with ⟨rfl, h0⟩ | ⟨g, cap, cur, rfl, _⟩
  · omega
  · exact ⟨_, cap, w', hrun, h2, h3⟩
theorem wpList_append_field {w : World} {ops : Array Oper} {rest : List Oper} {o : Oper} {a : Act} {Q : Exit → Act → World → Prop} (hw : Region.wanted o (yielded ops a.tmps) = true) (s x : Operand)
    (ho : o.op = .call { callee := .builtin .append, args := #[s, x], argTypes := #[36, 36] })
    (base : Nat) (A : Option Addr) (n c : Nat) (fs : List Fld.F) (hs : a.eval s = .slice A n c) (hown : FOwn w base A n c fs)
    (g2 : Nat) (f : Fld.F) (hx : a.eval x = .slice (some ⟨g2, 0, none⟩) 1 1) (h0 : w.cell? ⟨g2, 0, none⟩ = some (.string ⟨f.key.toArray⟩)) (h1 : w.cell? ⟨g2, 1, none⟩ = some (.int .i64 f.kind)) (h2 : w.cell? ⟨g2, 2, none⟩ = some (.int .i64 f.int)) (h3 : w.cell? ⟨g2, 3, none⟩ = some (.string ⟨f.text.toArray⟩)) (hbytes : n < 1000) (hbase : base ≤ w.heap.size)
    (h : ∀ A' c' w', FOwn w' base A' (n + 1) c' (fs ++ [f]) → w.grownBy w' (blk A) → wpList Tryd.prog ops Q rest (a.put o.dst (.slice A' (n + 1) c')) w') :
    wpList Tryd.prog ops Q (o :: rest) a w := by
  obtain ⟨A', c', w', hrun, h2, h3⟩ := run_append_field w base o.type A n c fs hown g2 f h0 h1 h2 h3 hbytes hbase
  refine wpList_step fun K hK => ?_
  rw [if_pos hw]
  unfold Oper.wp execOp
  simp only [ho, resolve, invoke, builtin, Sem.run_bind, Sem.run_pure, Result.andThen_ok, List.map_toArray, List.map_cons, List.map_nil, hs, hx, hrun]
  exact hK _ _ (h A' c' w' h2 h3)
end Go.Proofs.YtbjoboemhdcalaaDoor
