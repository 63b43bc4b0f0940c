/- Slices of the document's pieces, a text and how often it comes, of one's own. -/
import Derived.Test.YtmcioglidgbibaaStrs
import Derived.Test.YtmcioglidgbibaaSym
import Derived.Laws.OwnMore
import Derived.Lib.BufferOwn
namespace Go.Proofs.Ytmcioglidgbibaa
open Go.RowKit
set_option maxRecDepth 100000

theorem piece_info : (Try.prog.info? 54).map (fun i => (i.zero, i.size, i.bytes)) = some (some (.agg #[.string ⟨#[]⟩, .int .i64 0]), 2, 24) := by kernel_rfl
/-- pieces as cells -/
def pcells (l : List (List UInt8 × Nat)) : List Value := l.flatMap fun p => [.string ⟨p.1.toArray⟩, .int .i64 (p.2 : Int)]
theorem pcells_length (l : List (List UInt8 × Nat)) : (pcells l).length = l.length * 2 := by
  induction l with
  | nil => rfl
  | cons p l ih =>
    show ([Value.string ⟨p.1.toArray⟩, .int .i64 (p.2 : Int)] ++ pcells l).length = _
    rw [List.length_append, ih, List.length_cons]
    simp
    omega
theorem pcells_append (a b : List (List UInt8 × Nat)) : pcells (a ++ b) = pcells a ++ pcells b := by simp [pcells]
theorem pcells_text (l : List (List UInt8 × Nat)) : ∀ (k : Nat) (h : k < l.length), (pcells l)[2 * k]? = some (.string ⟨l[k].1.toArray⟩) := by
  induction l with
  | nil => intro k h; cases h
  | cons p l ih =>
    intro k h
    show ([Value.string ⟨p.1.toArray⟩, .int .i64 (p.2 : Int)] ++ pcells l)[2 * k]? = _
    cases k with
    | zero => rfl
    | succ k =>
      rw [List.getElem?_append_right (by simp; omega)]
      have := ih k (by simpa using h)
      rw [show 2 * (k + 1) - [Value.string ⟨p.1.toArray⟩, .int .i64 (p.2 : Int)].length = 2 * k from by simp; omega, this]
      rfl
theorem pcells_times (l : List (List UInt8 × Nat)) : ∀ (k : Nat) (h : k < l.length), (pcells l)[2 * k + 1]? = some (.int .i64 (l[k].2 : Int)) := by
  induction l with
  | nil => intro k h; cases h
  | cons p l ih =>
    intro k h
    show ([Value.string ⟨p.1.toArray⟩, .int .i64 (p.2 : Int)] ++ pcells l)[2 * k + 1]? = _
    cases k with
    | zero => rfl
    | succ k =>
      rw [List.getElem?_append_right (by simp; omega)]
      have := ih k (by simpa using h)
      rw [show 2 * (k + 1) + 1 - [Value.string ⟨p.1.toArray⟩, .int .i64 (p.2 : Int)].length = 2 * k + 1 from by simp; omega, this]
      rfl
theorem pcells_set (l : List (List UInt8 × Nat)) : ∀ (k : Nat) (h : k < l.length) (t : Nat), (pcells l).set (2 * k + 1) (.int .i64 (t : Int)) = pcells (l.set k (l[k].1, t)) := by
  induction l with
  | nil => intro k h; cases h
  | cons p l ih =>
    intro k h t
    show ([Value.string ⟨p.1.toArray⟩, .int .i64 (p.2 : Int)] ++ pcells l).set (2 * k + 1) _ = _
    cases k with
    | zero => rfl
    | succ k =>
      have := ih k (by simpa using h) t
      rw [show 2 * (k + 1) + 1 = (2 * k + 1) + 1 + 1 from by omega]
      show .string ⟨p.1.toArray⟩ :: .int .i64 (p.2 : Int) :: (pcells l).set (2 * k + 1) _ = _
      rw [this]
      rfl
theorem pcells_one (l : List (List UInt8 × Nat)) : ∀ u ∈ pcells l, u.oneCell' = true := by
  intro u hu
  obtain ⟨p, _, hp⟩ := List.mem_flatMap.1 hu
  simp only [List.mem_cons, List.not_mem_nil, or_false] at hp
  rcases hp with rfl | rfl <;> rfl

/-- The slice at A, of n pieces, is l, in a block from 'base' on that nothing else holds. -/
def POwn (w : World) (base : Nat) (A : Option Addr) (n c : Nat) (l : List (List UInt8 × Nat)) : Prop := w.ownsRow base 54 2 (.slice A n c) n (pcells l)
namespace POwn
variable {w w' : World} {base : Nat} {A : Option Addr} {n c : Nat} {l : List (List UInt8 × Nat)}
theorem nil (w : World) (base : Nat) : POwn w base none 0 0 [] := World.ownsRow_nil w base _ 2
theorem len (h : POwn w base A n c l) : l.length = n := by have := h.1; rw [pcells_length] at this; omega
theorem lt (h : POwn w base A n c l) {k : Nat} (hk : blk A = some k) : base ≤ k ∧ k < w.heap.size := World.ownsRow.lt h k (by rw [ownBlock_eq]; exact hk)
theorem kept {row : Option Nat} (h : POwn w base A n c l) (hg : w.grownBy w' row) (hne : blk A = none ∨ blk A ≠ row) : POwn w' base A n c l :=
  World.ownsRow.kept h hg (by rw [ownBlock_eq]; exact hne)
theorem alloc (h : POwn w base A n c l) (o : Obj) : POwn (w.alloc o) base A n c l := World.ownsRow.alloc h o
theorem below (h : POwn w base A n c l) (hb : Below w.heap.size w w') : POwn w' base A n c l :=
  h.kept (row := none) ⟨hb.os, hb.tape, hb.output, hb.size, fun j hj _ => hb.block j hj⟩ (by cases A <;> simp [blk])
theorem drawn (h : POwn w base A n c l) (hd : Drawn w w') : POwn w' base A n c l := by
  obtain ⟨q, rfl⟩ := hd
  exact h
theorem at_ (h : POwn w base A n c l) (hn : 0 < n) : ∃ g, A = some ⟨g, 0, none⟩ ∧ base ≤ g ∧ g < w.heap.size := by
  obtain ⟨g, cap, hv, hb, hlt⟩ := World.ownsRow.form h hn
  injection hv with h1
  exact ⟨g, h1, hb, hlt⟩
theorem low {b' : Nat} (h : POwn w base A n c l) (hb : b' ≤ base) : POwn w b' A n c l := by
  refine ⟨h.1, ?_⟩
  rcases h.2 with h2 | ⟨g, cap, cur, h1, h2, r⟩
  · exact .inl h2
  · exact .inr ⟨g, cap, cur, h1, Nat.le_trans hb h2, r⟩
theorem text {g : Nat} (h : POwn w base (some ⟨g, 0, none⟩) n c l) {k : Nat} (hk : k < l.length) : w.cell? ⟨g, k * 2, none⟩ = some (.string ⟨l[k].1.toArray⟩) := by
  rw [World.ownsRow.cellAt h (k * 2) (by rw [← h.len]; omega), Nat.mul_comm]
  exact pcells_text l k hk
theorem times {g : Nat} (h : POwn w base (some ⟨g, 0, none⟩) n c l) {k : Nat} (hk : k < l.length) : w.cell? ⟨g, k * 2 + 1, none⟩ = some (.int .i64 (l[k].2 : Int)) := by
  rw [World.ownsRow.cellAt h (k * 2 + 1) (by rw [← h.len]; omega), Nat.mul_comm]
  exact pcells_times l k hk
theorem free {g : Nat} (h : POwn w base (some ⟨g, 0, none⟩) n c l) (k : Nat) : w.frozen? ⟨g, k, none⟩ = false := World.ownsRow.frozenAt h k
theorem store {g : Nat} (h : POwn w base (some ⟨g, 0, none⟩) n c l) {k : Nat} (hk : k < l.length) (t : Nat) : POwn (w.setCell ⟨g, k * 2 + 1, none⟩ (.int .i64 (t : Int))) base (some ⟨g, 0, none⟩) n c (l.set k (l[k].1, t)) := by
  have := (World.ownsRow.stored h (2 * k + 1) (.int .i64 (t : Int))).1
  rw [Nat.mul_comm]
  rw [pcells_set l k hk] at this
  exact this
theorem store_grown (w : World) (g i : Nat) (v : Value) : w.grownBy (w.setCell ⟨g, i, none⟩ v) (some g) := Lib.grownBy_setB (World.grownBy.refl w (some g)) i v
end POwn

theorem run_append_piece (w : World) (base : Nat) (ty : TypeId) (A : Option Addr) (n c : Nat) (l : List (List UInt8 × Nat)) (hown : POwn w base A n c l) (g2 : Nat) (p : List UInt8 × Nat)
    (ht : w.cell? ⟨g2, 0, none⟩ = some (.string ⟨p.1.toArray⟩)) (hn : w.cell? ⟨g2, 1, none⟩ = some (.int .i64 (p.2 : Int))) (hbytes : n < 1000000) (hbase : base ≤ w.heap.size) :
    ∃ A' c' w', (Builtin.append_ #[51, 51] ty #[.slice A n c, .slice (some ⟨g2, 0, none⟩) 1 1]).run Try.prog w = .ok (.slice A' (n + 1) c') w' ∧
      POwn w' base A' (n + 1) c' (l ++ [p]) ∧ w.grownBy w' (blk A) := by
  obtain ⟨i0, hi0, hz0, hz1, hz2⟩ := info_parts piece_info
  obtain ⟨v', w', hrun, h2, h3, _, h5⟩ := run_append_own_at (P := Try.prog) w base 51 ty 54 i0 _ 2 24 Try.underlying51 hi0 hz0 hz1 hz2 rfl (by omega) (.slice A n c) n (pcells l) hown
    ⟨g2, 0, none⟩ 1 1 (pcells [p]) rfl (fun j u hu => by
      rcases j with _ | _ | j
      · simp [pcells] at hu; rw [← hu]; simpa [Addr.add] using ht
      · simp [pcells] at hu; rw [← hu]; simpa [Addr.add] using hn
      · simp [pcells] at hu) (pcells_one _) (by simp only [maxLen]; omega) (by omega) hbase
  rw [← pcells_append] at h2
  rw [ownBlock_eq] at h3
  rcases h2.2 with ⟨rfl, h0⟩ | ⟨g, cap, cur, rfl, _⟩
  · omega
  · exact ⟨_, cap, w', hrun, h2, h3⟩
theorem wpList_append_piece {w : World} {ops : Array Oper} {rest : List Oper} {o : Oper} {a : Act} {Q : Exit → Act → World → Prop} (hw : Region.wanted o (yielded ops a.tmps) = true) (s x : Operand)
    (ho : o.op = .call { callee := .builtin .append, args := #[s, x], argTypes := #[51, 51] })
    (base : Nat) (A : Option Addr) (n c : Nat) (l : List (List UInt8 × Nat)) (hs : a.eval s = .slice A n c) (hown : POwn w base A n c l)
    (g2 : Nat) (p : List UInt8 × Nat) (hx : a.eval x = .slice (some ⟨g2, 0, none⟩) 1 1) (ht : w.cell? ⟨g2, 0, none⟩ = some (.string ⟨p.1.toArray⟩)) (hn : w.cell? ⟨g2, 1, none⟩ = some (.int .i64 (p.2 : Int))) (hbytes : n < 1000000) (hbase : base ≤ w.heap.size)
    (h : ∀ A' c' w', POwn w' base A' (n + 1) c' (l ++ [p]) → w.grownBy w' (blk A) → wpList Try.prog ops Q rest (a.put o.dst (.slice A' (n + 1) c')) w') :
    wpList Try.prog ops Q (o :: rest) a w := by
  obtain ⟨A', c', w', hrun, h2, h3⟩ := run_append_piece w base o.type A n c l hown g2 p ht hn hbytes hbase
  refine wpList_step fun K hK => ?_
  rw [if_pos hw]
  unfold Oper.wp execOp
  simp only [ho, resolve, invoke, builtin, Sem.run_bind, Sem.run_pure, Result.andThen_ok, List.map_toArray, List.map_cons, List.map_nil, hs, hx, hrun]
  exact hK _ _ (h A' c' w' h2 h3)

/-- what a piece is worth, by the document -/
def wort (p : List UInt8 × Nat) : Int := ((p.1.length : Int) - 1) * (p.2 : Int)
theorem wort_bound {p : List UInt8 × Nat} (h1 : p.1.length ≤ 8) (h2 : p.2 ≤ 7168) : -7168 ≤ wort p ∧ wort p ≤ 50176 := by
  unfold wort
  have : p.1.length = 0 ∨ p.1.length = 1 ∨ p.1.length = 2 ∨ p.1.length = 3 ∨ p.1.length = 4 ∨ p.1.length = 5 ∨ p.1.length = 6 ∨ p.1.length = 7 ∨ p.1.length = 8 := by omega
  rcases this with h | h | h | h | h | h | h | h | h <;> rw [h] <;> omega
theorem worth_any (s : List UInt8) (t : Nat) (w : World) (h1 : s.length ≤ 8) (h2 : t ≤ 7168) :
    Calls Try.prog 34 #[.agg #[.string ⟨s.toArray⟩, .int .i64 (t : Int)]] w fun e w' => e = .returned (.int .i64 (wort (s, t))) ∧ Below w.heap.size w w' := by
  have hb := wort_bound (p := (s, t)) h1 h2
  have hv : wort (s, t) = ((s.length : Int) - 1) * (t : Int) := rfl
  have hb1 : -7168 ≤ ((s.length : Int) - 1) * (t : Int) := by rw [← hv]; exact hb.1
  have hb2 : ((s.length : Int) - 1) * (t : Int) ≤ 50176 := by rw [← hv]; exact hb.2
  have Hv := Lib.hid hv
  clear hv hb
  go_enter Try.func34, Try.ntmps34
  go_wp2
  go_ret
  exact ⟨by rw [Hv.out]; rfl, (Below.refl _ _).alloc (Nat.le_refl _) _⟩
end Go.Proofs.Ytmcioglidgbibaa
