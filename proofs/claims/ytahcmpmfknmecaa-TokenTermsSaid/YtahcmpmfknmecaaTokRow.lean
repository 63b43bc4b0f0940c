/- Slices of tokens whose places are their numbers: of one's own, appended to, read. -/
import Derived.Test.YtahcmpmfknmecaaDraws
import Derived.Test.YtahcmpmfknmecaaRow
import Derived.Laws.OwnMore
import Derived.Laws.Slices
import Derived.Lib.BufferOwn
namespace Go.Proofs.Ytahcmpmfknmecaa
open Go.RowKit
set_option maxRecDepth 100000

theorem token_info : (Try.prog.info? 36).map (fun i => (i.zero, i.size, i.bytes)) = some (some (.agg #[.int .i64 0, .string ⟨#[]⟩]), 2, 24) := by kernel_rfl
/-- terms as tokens' cells, the places from k on -/
def tcellsFrom : Nat → List (List UInt8) → List Value
  | _, [] => []
  | k, t :: r => .int .i64 (k : Int) :: .string ⟨t.toArray⟩ :: tcellsFrom (k + 1) r
def tcells (ts : List (List UInt8)) : List Value := tcellsFrom 0 ts
theorem tcellsFrom_length : ∀ (k : Nat) (ts : List (List UInt8)), (tcellsFrom k ts).length = ts.length * 2
  | _, [] => rfl
  | k, t :: r => by simp only [tcellsFrom, List.length_cons, tcellsFrom_length (k + 1) r]; omega
theorem tcells_length (ts : List (List UInt8)) : (tcells ts).length = ts.length * 2 := tcellsFrom_length 0 ts
theorem tcellsFrom_snoc (t : List UInt8) : ∀ (k : Nat) (ts : List (List UInt8)), tcellsFrom k (ts ++ [t]) = tcellsFrom k ts ++ [.int .i64 ((k + ts.length : Nat) : Int), .string ⟨t.toArray⟩]
  | k, [] => rfl
  | k, s :: r => by
    simp only [List.cons_append, tcellsFrom, tcellsFrom_snoc t (k + 1) r, List.length_cons]
    rw [show k + 1 + r.length = k + (r.length + 1) from by omega]
theorem tcells_snoc (ts : List (List UInt8)) (t : List UInt8) : tcells (ts ++ [t]) = tcells ts ++ [.int .i64 (ts.length : Int), .string ⟨t.toArray⟩] := by
  have := tcellsFrom_snoc t 0 ts
  rw [Nat.zero_add] at this
  exact this
theorem tcellsFrom_at : ∀ (j : Nat) (ts : List (List UInt8)) (k : Nat) (h : k < ts.length), (tcellsFrom j ts)[2 * k]? = some (.int .i64 ((j + k : Nat) : Int)) ∧ (tcellsFrom j ts)[2 * k + 1]? = some (.string ⟨ts[k].toArray⟩)
  | j, [], k, h => by cases h
  | j, t :: r, 0, h => ⟨rfl, rfl⟩
  | j, t :: r, k + 1, h => by
    have := tcellsFrom_at (j + 1) r k (by simpa using h)
    rw [show 2 * (k + 1) = 2 * k + 1 + 1 from by omega]
    simp only [tcellsFrom, List.getElem?_cons_succ, List.getElem_cons_succ]
    rw [show j + (k + 1) = j + 1 + k from by omega]
    exact this
theorem tcells_one (ts : List (List UInt8)) : ∀ u ∈ tcells ts, u.oneCell' = true := by
  have : ∀ (ts : List (List UInt8)) (k : Nat), ∀ u ∈ tcellsFrom k ts, u.oneCell' = true := by
    intro ts
    induction ts with
    | nil => intro k u hu; cases hu
    | cons t r ih =>
      intro k u hu
      rcases List.mem_cons.1 hu with rfl | hu
      · rfl
      · rcases List.mem_cons.1 hu with rfl | hu
        · rfl
        · exact ih _ _ hu
  exact this ts 0

/-- A slice of tokens: their terms, the places being 0, 1, ..; of an empty one nothing is asked. -/
def Toks (w : World) (A : Option Addr) (ts : List (List UInt8)) : Prop :=
  ts ≠ [] → ∃ g, A = some ⟨g, 0, none⟩ ∧ g < w.heap.size ∧ ∀ k, (h : k < ts.length) → w.cell? ⟨g, k * 2, none⟩ = some (.int .i64 (k : Int)) ∧ w.cell? ⟨g, k * 2 + 1, none⟩ = some (.string ⟨ts[k].toArray⟩)
namespace Toks
variable {w w' : World} {A : Option Addr} {ts : List (List UInt8)}
theorem get (h : Toks w A ts) {k : Nat} (hk : k < ts.length) : ∃ g, A = some ⟨g, 0, none⟩ ∧ g < w.heap.size ∧ w.cell? ⟨g, k * 2, none⟩ = some (.int .i64 (k : Int)) ∧ w.cell? ⟨g, k * 2 + 1, none⟩ = some (.string ⟨ts[k].toArray⟩) := by
  obtain ⟨g, ha, hg, hc⟩ := h (fun e => by subst e; simp at hk)
  exact ⟨g, ha, hg, hc k hk⟩
theorem below (h : Toks w A ts) (hb : Below w.heap.size w w') : Toks w' A ts := fun hn => by
  obtain ⟨g, ha, hg, hc⟩ := h hn
  refine ⟨g, ha, Nat.lt_of_lt_of_le hg hb.size, fun k hk => ?_⟩
  have h1 : w'.cell? ⟨g, k * 2, none⟩ = w.cell? ⟨g, k * 2, none⟩ := hb.cell hg
  have h2 : w'.cell? ⟨g, k * 2 + 1, none⟩ = w.cell? ⟨g, k * 2 + 1, none⟩ := hb.cell hg
  rw [h1, h2]
  exact hc k hk
theorem drewN (h : Toks w A ts) (q : Nat) : Toks (w.drewN q) A ts := h
theorem drawn (h : Toks w A ts) (hd : Drawn w w') : Toks w' A ts := by
  obtain ⟨q, rfl⟩ := hd
  exact h
theorem take (h : Toks w A ts) (n : Nat) : Toks w A (ts.take n) := fun hn => by
  obtain ⟨g, ha, hg, hc⟩ := h (fun e => hn (by subst e; simp))
  refine ⟨g, ha, hg, fun k hk => ?_⟩
  rw [List.getElem_take]
  exact hc k (by simp at hk; omega)
end Toks

/-- The slice at A, of n tokens, is that of the terms ts, in a block from 'base' on that nothing else holds. -/
def TOwn (w : World) (base : Nat) (A : Option Addr) (n c : Nat) (ts : List (List UInt8)) : Prop := w.ownsRow base 36 2 (.slice A n c) n (tcells ts)
namespace TOwn
variable {w w' : World} {base : Nat} {A : Option Addr} {n c : Nat} {ts : List (List UInt8)}
theorem nil (w : World) (base : Nat) : TOwn w base none 0 0 [] := World.ownsRow_nil w base _ 2
theorem len (h : TOwn w base A n c ts) : ts.length = n := by have := h.1; rw [tcells_length] at this; omega
theorem lt (h : TOwn w base A n c ts) {k : Nat} (hk : blk A = some k) : base ≤ k ∧ k < w.heap.size := World.ownsRow.lt h k (by rw [ownBlock_eq]; exact hk)
theorem kept {row : Option Nat} (h : TOwn w base A n c ts) (hg : w.grownBy w' row) (hne : blk A = none ∨ blk A ≠ row) : TOwn w' base A n c ts :=
  World.ownsRow.kept h hg (by rw [ownBlock_eq]; exact hne)
theorem alloc (h : TOwn w base A n c ts) (o : Obj) : TOwn (w.alloc o) base A n c ts := World.ownsRow.alloc h o
theorem below (h : TOwn w base A n c ts) (hb : Below w.heap.size w w') : TOwn w' base A n c ts :=
  h.kept (row := none) ⟨hb.os, hb.tape, hb.output, hb.size, fun j hj _ => hb.block j hj⟩ (by cases A <;> simp [blk])
theorem drawn (h : TOwn w base A n c ts) (hd : Drawn w w') : TOwn w' base A n c ts := by
  obtain ⟨q, rfl⟩ := hd
  exact h
theorem low {b' : Nat} (h : TOwn w base A n c ts) (hb : b' ≤ base) : TOwn w b' A n c ts := by
  refine ⟨h.1, ?_⟩
  rcases h.2 with h2 | ⟨g, cap, cur, h1, h2, r⟩
  · exact .inl h2
  · exact .inr ⟨g, cap, cur, h1, Nat.le_trans hb h2, r⟩
theorem cap (h : TOwn w base A n c ts) : n ≤ c := by
  rcases h.2 with ⟨_, rfl⟩ | ⟨g, cap, cur, hv, _, _, hnc, _⟩
  · omega
  · injection hv with _ _ h3
    omega
theorem toks (h : TOwn w base A n c ts) : Toks w A ts := fun hn => by
  have hl := h.len
  have h0 : 0 < n := by
    rcases Nat.eq_zero_or_pos n with h0 | h0
    · exact absurd (List.eq_nil_of_length_eq_zero (by omega)) hn
    · exact h0
  obtain ⟨g, cap, hv, _, hlt⟩ := World.ownsRow.form h h0
  injection hv with h1
  subst h1
  refine ⟨g, rfl, hlt, fun k hk => ?_⟩
  have := tcellsFrom_at 0 ts k hk
  rw [Nat.zero_add] at this
  rw [World.ownsRow.cellAt h (k * 2) (by omega), World.ownsRow.cellAt h (k * 2 + 1) (by omega), Nat.mul_comm k 2]
  exact this
end TOwn

theorem run_append_token (w : World) (base : Nat) (ty : TypeId) (A : Option Addr) (n c : Nat) (ts : List (List UInt8)) (hown : TOwn w base A n c ts) (g2 : Nat) (t : List UInt8)
    (hn : w.cell? ⟨g2, 0, none⟩ = some (.int .i64 (n : Int))) (ht : w.cell? ⟨g2, 1, none⟩ = some (.string ⟨t.toArray⟩)) (hbytes : n < 100000000) (hbase : base ≤ w.heap.size) :
    ∃ A' c' w', (Builtin.append_ #[26, 26] ty #[.slice A n c, .slice (some ⟨g2, 0, none⟩) 1 1]).run Try.prog w = .ok (.slice A' (n + 1) c') w' ∧
      TOwn w' base A' (n + 1) c' (ts ++ [t]) ∧ w.grownBy w' (blk A) := by
  obtain ⟨i0, hi0, hz0, hz1, hz2⟩ := info_parts token_info
  have hl := hown.len
  obtain ⟨v', w', hrun, h2, h3, _, h5⟩ := run_append_own_at (P := Try.prog) w base 26 ty 36 i0 _ 2 24 Try.underlying26 hi0 hz0 hz1 hz2 rfl (by omega) (.slice A n c) n (tcells ts) hown
    ⟨g2, 0, none⟩ 1 1 [.int .i64 (n : Int), .string ⟨t.toArray⟩] rfl (fun j u hu => by
      rcases j with _ | _ | j
      · simp at hu; rw [← hu]; simpa [Addr.add] using hn
      · simp at hu; rw [← hu]; simpa [Addr.add] using ht
      · simp at hu) (by intro u hu; rcases List.mem_cons.1 hu with rfl | hu; · rfl
                        · rw [List.mem_singleton.1 hu]; rfl) (by simp only [maxLen]; omega) (by omega) hbase
  rw [← hl, ← tcells_snoc, hl] at h2
  rw [ownBlock_eq] at h3
  rcases h2.2 with ⟨rfl, h0⟩ | ⟨g, cap, cur, rfl, _⟩
  · omega
  · exact ⟨_, cap, w', hrun, h2, h3⟩
theorem wpList_append_token {w : World} {ops : Array Oper} {rest : List Oper} {o : Oper} {a : Act} {Q : Exit → Act → World → Prop} (hw : Region.wanted o (yielded ops a.tmps) = true) (s x : Operand)
    (ho : o.op = .call { callee := .builtin .append, args := #[s, x], argTypes := #[26, 26] })
    (base : Nat) (A : Option Addr) (n c : Nat) (ts : List (List UInt8)) (hs : a.eval s = .slice A n c) (hown : TOwn w base A n c ts)
    (g2 : Nat) (t : List UInt8) (hx : a.eval x = .slice (some ⟨g2, 0, none⟩) 1 1) (hn : w.cell? ⟨g2, 0, none⟩ = some (.int .i64 (n : Int))) (ht : w.cell? ⟨g2, 1, none⟩ = some (.string ⟨t.toArray⟩)) (hbytes : n < 100000000) (hbase : base ≤ w.heap.size)
    (h : ∀ A' c' w', TOwn w' base A' (n + 1) c' (ts ++ [t]) → w.grownBy w' (blk A) → wpList Try.prog ops Q rest (a.put o.dst (.slice A' (n + 1) c')) w') :
    wpList Try.prog ops Q (o :: rest) a w := by
  obtain ⟨A', c', w', hrun, h2, h3⟩ := run_append_token w base o.type A n c ts hown g2 t hn ht hbytes hbase
  refine wpList_step fun K hK => ?_
  rw [if_pos hw]
  unfold Oper.wp execOp
  simp only [ho, resolve, invoke, builtin, Sem.run_bind, Sem.run_pure, Result.andThen_ok, List.map_toArray, List.map_cons, List.map_nil, hs, hx, hrun]
  exact hK _ _ (h A' c' w' h2 h3)
end Go.Proofs.Ytahcmpmfknmecaa
