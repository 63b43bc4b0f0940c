/- Texts of several layers, one behind the other: MRow RowIn Seq2 IcPl IcRow IcRowZ IcArg IcForm IcZone IcIter IcZones IcWhere IcSplit IcPut IcLaw IcScan. -/
import Derived.Test.YtgjopffdgdimlaaBD
import Derived.Laws.OwnMore
import Derived.Lib.BufferOwn
import Derived.RangeFuncNested
import Derived.RangeFuncBound
import Derived.RangeFuncCalls
import Derived.RangeFuncLeaves
import Derived.RangeFuncBox
import Derived.Shelf.Abstract
import Derived.Shelf.RegionOpen
import Derived.WalkKit
import Derived.OwnWalkIn
import Derived.TacticsInMore
import Derived.LoopNIn
import Derived.LoopIn
import Derived.Laws.Small
import Derived.Deep.SlicePairs
import Derived.ChangeArms
import Derived.Lib.Hide
import Derived.Deep.QuietTactic
import Derived.BigQuiet
import Derived.RegionTactic
import Derived.Lib.SmallJoins
import Derived.Laws.Slices
import Derived.Lib.BufferRead
import Derived.Deep.DeepMust
/- Slices of values of several cells each: what they hold in a world, how that is kept; slices of one's own, made, stored into, appended to. -/
namespace Go.Proofs.Ytgjopffdgdimlaa
open Go.RowKit
set_option maxRecDepth 100000

theorem addr_zero_add (g i : Nat) : (⟨g, 0, none⟩ : Addr).add i = ⟨g, i, none⟩ := by by_cases h : i = 0 <;> simp [Addr.add, h]
/-- the cells of many values, one behind the other -/
def mcat {α : Type} (f : α → List Value) (l : List α) : List Value := l.flatMap f
section cat
variable {α : Type} {f : α → List Value} {m : Nat}
theorem mcat_append (a b : List α) : mcat f (a ++ b) = mcat f a ++ mcat f b := by simp [mcat]
theorem mcat_cons (x : α) (l : List α) : mcat f (x :: l) = f x ++ mcat f l := rfl
theorem mcat_one (x : α) : mcat f [x] = f x := by simp [mcat]
theorem mcat_length (hm : ∀ x, (f x).length = m) : ∀ (l : List α), (mcat f l).length = l.length * m
  | [] => by simp [mcat]
  | x :: l => by rw [mcat_cons, List.length_append, hm, mcat_length hm l, List.length_cons, Nat.succ_mul]; omega
theorem mcat_at (hm : ∀ x, (f x).length = m) : ∀ (l : List α) (k : Nat) (h : k < l.length) (j : Nat), j < m → (mcat f l)[k * m + j]? = (f l[k])[j]?
  | [], k, h, _, _ => by cases h
  | x :: l, 0, _, j, hj => by
    rw [mcat_cons, Nat.zero_mul, Nat.zero_add, List.getElem?_append_left (by rw [hm]; exact hj)]
    rfl
  | x :: l, k + 1, h, j, hj => by
    rw [mcat_cons, List.getElem?_append_right (by rw [hm, Nat.succ_mul]; omega), hm, show (k + 1) * m + j - m = k * m + j from by rw [Nat.succ_mul]; omega, mcat_at hm l k (by simpa using h) j hj]
    rfl
theorem mcat_index (hm : ∀ x, (f x).length = m) {l : List α} {i : Nat} {u : Value} (hm0 : 0 < m) (h : (mcat f l)[i]? = some u) : ∃ k j, ∃ hk : k < l.length, j < m ∧ i = k * m + j ∧ (f l[k])[j]? = some u := by
  have hi : i < l.length * m := by
    rw [← mcat_length hm]
    rcases Nat.lt_or_ge i (mcat f l).length with h1 | h1
    · exact h1
    · rw [List.getElem?_eq_none h1] at h; cases h
  have hk : i / m < l.length := Nat.div_lt_of_lt_mul (by rw [Nat.mul_comm]; exact hi)
  have hj : i % m < m := Nat.mod_lt _ hm0
  have e : i = i / m * m + i % m := by rw [Nat.mul_comm]; exact (Nat.div_add_mod i m).symm
  refine ⟨i / m, i % m, hk, hj, e, ?_⟩
  rw [← mcat_at hm l _ hk _ hj, ← e]
  exact h
/-- a cell stored into -/
theorem mcat_set (hm : ∀ x, (f x).length = m) : ∀ (l : List α) (k : Nat) (h : k < l.length) (j : Nat) (u : Value) (y : α), j < m → (f l[k]).set j u = f y → (mcat f l).set (k * m + j) u = mcat f (l.set k y)
  | [], k, h, _, _, _, _, _ => by cases h
  | x :: l, 0, _, j, u, y, hj, e => by
    rw [mcat_cons, Nat.zero_mul, Nat.zero_add, List.set_append_left _ _ (by rw [hm]; exact hj), List.set_cons_zero, mcat_cons, ← e]
    rfl
  | x :: l, k + 1, h, j, u, y, hj, e => by
    rw [mcat_cons, List.set_append_right _ _ (by rw [hm, Nat.succ_mul]; omega), hm, show (k + 1) * m + j - m = k * m + j from by rw [Nat.succ_mul]; omega, mcat_set hm l k (by simpa using h) j u y hj e]
    rfl
end cat

/-- A slice with address A holds the values l (each by f, m cells), in a block below B; of an empty one nothing is asked. -/
def MRow {α : Type} (f : α → List Value) (m : Nat) (w : World) (B : Nat) (A : Option Addr) (l : List α) : Prop :=
  l ≠ [] → ∃ ad, A = some ad ∧ ad.block < B ∧ ∀ i, (h : i < l.length) → ∀ j, j < m → w.cell? (ad.add (i * m + j)) = (f l[i])[j]?
namespace MRow
variable {α : Type} {f : α → List Value} {m : Nat} {w w' : World} {B B' : Nat} {A : Option Addr} {l : List α}
theorem nil (f : α → List Value) (m : Nat) (w : World) (B : Nat) (A : Option Addr) : MRow f m w B A [] := fun h => absurd rfl h
theorem none_ (h : MRow f m w B none l) : l = [] := by
  rcases Classical.em (l = []) with e | e
  · exact e
  · obtain ⟨_, e, _⟩ := h e; cases e
theorem get (h : MRow f m w B A l) {k : Nat} (hk : k < l.length) : ∃ ad, A = some ad ∧ ad.block < B ∧ ∀ j, j < m → w.cell? (ad.add (k * m + j)) = (f l[k])[j]? := by
  obtain ⟨ad, ha, hb, hc⟩ := h (fun e => by subst e; simp at hk)
  exact ⟨ad, ha, hb, hc k hk⟩
theorem keep (h : MRow f m w B A l) (hk : ∀ p : Addr, p.block < B → w'.cell? p = w.cell? p) : MRow f m w' B A l := fun hn => by
  obtain ⟨ad, ha, hb, hc⟩ := h hn
  exact ⟨ad, ha, hb, fun i hi j hj => (hk _ (by rw [addr_add_block]; exact hb)).trans (hc i hi j hj)⟩
theorem wide (h : MRow f m w B A l) (hB : B ≤ B') : MRow f m w B' A l := fun hn => by
  obtain ⟨ad, ha, hb, hc⟩ := h hn
  exact ⟨ad, ha, Nat.lt_of_lt_of_le hb hB, hc⟩
theorem below (h : MRow f m w B A l) (hb : Below B w w') : MRow f m w' B A l := h.keep fun _ hp => hb.cell hp
theorem drewN (h : MRow f m w B A l) (q : Nat) : MRow f m (w.drewN q) B A l := h
theorem drawn (h : MRow f m w B A l) (hd : Drawn w w') : MRow f m w' B A l := by
  obtain ⟨q, rfl⟩ := hd
  exact h
theorem news {ad : Addr} (h : MRow f m w B (some ad) l) (hm : ∀ x, (f x).length = m) (hm0 : 0 < m) : ∀ j u, (mcat f l)[j]? = some u → w.cell? (ad.add j) = some u := by
  intro i u hu
  obtain ⟨k, j, hk, hj, rfl, hv⟩ := mcat_index hm hm0 hu
  obtain ⟨ad', ha, _, hc⟩ := h.get hk
  cases ha
  rw [hc j hj, hv]
theorem take (h : MRow f m w B A l) (n : Nat) : MRow f m w B A (l.take n) := fun hn => by
  obtain ⟨ad, ha, hb, hc⟩ := h (fun e => hn (by subst e; simp))
  refine ⟨ad, ha, hb, fun i hi j hj => ?_⟩
  rw [List.getElem_take]
  exact hc i (by simp at hi; omega) j hj
theorem drop (h : MRow f m w B A l) {k cap : Nat} (hk : k ≤ l.length) (hc : l.length ≤ cap) :
    MRow f m w B (if cap = k then A else A.map (·.add (k * m))) (l.drop k) := fun hn => by
  have hlt : k < l.length := by
    rcases Nat.lt_or_ge k l.length with hlt | hge
    · exact hlt
    · exact absurd (List.drop_eq_nil_of_le hge) hn
  obtain ⟨ad, rfl, hb, hcell⟩ := h (fun e => by subst e; simp at hlt)
  rw [if_neg (by omega)]
  refine ⟨ad.add (k * m), rfl, by rw [addr_add_block]; exact hb, fun i hi j hj => ?_⟩
  rw [addr_add_add, List.getElem_drop, show k * m + (i * m + j) = (k + i) * m + j from by rw [Nat.add_mul]; omega]
  exact hcell _ _ _ hj
end MRow

/-- what a kind of element has: m cells, so many bytes -/
structure MElem {α : Type} (f : α → List Value) (m : Nat) (t e : TypeId) (bytes : Nat) : Prop where
  len : ∀ x, (f x).length = m
  pos : 0 < m
  one : ∀ x, ∀ u ∈ f x, u.oneCell' = true
  under : Try.prog.underlying t = some (.slice e)
  info : ∃ i z, Try.prog.info? e = some i ∧ i.zero = some z ∧ i.size = m ∧ i.bytes = bytes ∧ z.cells.size = m

/-- The slice at A, of n values, is l, in a block from 'base' on that nothing else holds. -/
def MOwn {α : Type} (f : α → List Value) (m : Nat) (e : TypeId) (w : World) (base : Nat) (A : Option Addr) (n c : Nat) (l : List α) : Prop := w.ownsRow base e m (.slice A n c) n (mcat f l) ∧ l.length = n
namespace MOwn
variable {α : Type} {f : α → List Value} {m : Nat} {e : TypeId} {w w' : World} {base : Nat} {A : Option Addr} {n c : Nat} {l : List α}
theorem nil (f : α → List Value) (m : Nat) (e : TypeId) (w : World) (base : Nat) : MOwn f m e w base none 0 0 [] := ⟨World.ownsRow_nil w base e m, rfl⟩
theorem len (h : MOwn f m e w base A n c l) : l.length = n := h.2
theorem lt (h : MOwn f m e w base A n c l) {k : Nat} (hk : blk A = some k) : base ≤ k ∧ k < w.heap.size := World.ownsRow.lt h.1 k (by rw [ownBlock_eq]; exact hk)
theorem kept {row : Option Nat} (h : MOwn f m e w base A n c l) (hg : w.grownBy w' row) (hne : blk A = none ∨ blk A ≠ row) : MOwn f m e w' base A n c l :=
  ⟨World.ownsRow.kept h.1 hg (by rw [ownBlock_eq]; exact hne), h.2⟩
theorem alloc (h : MOwn f m e w base A n c l) (o : Obj) : MOwn f m e (w.alloc o) base A n c l := ⟨World.ownsRow.alloc h.1 o, h.2⟩
theorem below (h : MOwn f m e w base A n c l) (hb : Below w.heap.size w w') : MOwn f m e w' base A n c l :=
  h.kept (row := none) ⟨hb.os, hb.tape, hb.output, hb.size, fun j hj _ => hb.block j hj⟩ (by cases A <;> simp [blk])
theorem drawn (h : MOwn f m e w base A n c l) (hd : Drawn w w') : MOwn f m e w' base A n c l := by
  obtain ⟨q, rfl⟩ := hd
  exact h
theorem low {b' : Nat} (h : MOwn f m e w base A n c l) (hb : b' ≤ base) : MOwn f m e w b' A n c l := by
  refine ⟨⟨h.1.1, ?_⟩, h.2⟩
  rcases h.1.2 with h2 | ⟨g, cap, cur, h1, h2, r⟩
  · exact .inl h2
  · exact .inr ⟨g, cap, cur, h1, Nat.le_trans hb h2, r⟩
theorem cap (h : MOwn f m e w base A n c l) : n ≤ c := by
  rcases h.1.2 with ⟨_, rfl⟩ | ⟨g, cap, cur, hv, _, _, hnc, _⟩
  · omega
  · injection hv with _ _ h3
    omega
theorem at_ (h : MOwn f m e w base A n c l) (hn : 0 < n) : ∃ g, A = some ⟨g, 0, none⟩ ∧ base ≤ g ∧ g < w.heap.size := by
  obtain ⟨g, cap, hv, hb, hlt⟩ := World.ownsRow.form h.1 hn
  injection hv with h1
  exact ⟨g, h1, hb, hlt⟩
theorem cell {g : Nat} (h : MOwn f m e w base (some ⟨g, 0, none⟩) n c l) (hm : ∀ x, (f x).length = m) {k j : Nat} (hk : k < l.length) (hj : j < m) : w.cell? ⟨g, k * m + j, none⟩ = (f l[k])[j]? := by
  have hlt : k * m + j < n * m := by
    have : (k + 1) * m ≤ n * m := Nat.mul_le_mul_right _ (by rw [← h.2]; omega)
    rw [Nat.succ_mul] at this
    omega
  rw [World.ownsRow.cellAt h.1 _ hlt, mcat_at hm l k hk j hj]
theorem row (h : MOwn f m e w base A n c l) (hm : ∀ x, (f x).length = m) : MRow f m w w.heap.size A l := fun hn => by
  have h0 : 0 < n := by
    rcases Nat.eq_zero_or_pos n with h0 | h0
    · exact absurd (List.eq_nil_of_length_eq_zero (by rw [h.2]; exact h0)) hn
    · exact h0
  obtain ⟨g, rfl, _, hlt⟩ := h.at_ h0
  refine ⟨_, rfl, hlt, fun i hi j hj => ?_⟩
  rw [addr_zero_add]
  exact h.cell hm hi hj
theorem free {g : Nat} (h : MOwn f m e w base (some ⟨g, 0, none⟩) n c l) (k : Nat) : w.frozen? ⟨g, k, none⟩ = false := World.ownsRow.frozenAt h.1 k
/-- one cell of one value stored into -/
theorem store {g : Nat} (h : MOwn f m e w base (some ⟨g, 0, none⟩) n c l) (hm : ∀ x, (f x).length = m) {k j : Nat} {u : Value} {y : α} (hk : k < l.length) (hj : j < m) (hy : (f l[k]).set j u = f y) :
    MOwn f m e (w.setCell ⟨g, k * m + j, none⟩ u) base (some ⟨g, 0, none⟩) n c (l.set k y) := by
  have := (World.ownsRow.stored h.1 (k * m + j) u).1
  rw [mcat_set hm l k hk j u y hj hy] at this
  exact ⟨this, by rw [List.length_set]; exact h.2⟩
theorem block {g : Nat} (h : MOwn f m e w base (some ⟨g, 0, none⟩) n c l) : base ≤ g ∧ g < w.heap.size := h.lt rfl
/-- a literal, or a made slice -/
theorem lit (hm : ∀ x, (f x).length = m) (w : World) (base : Nat) (l : List α) (hb : base ≤ w.heap.size) (hl : l.length ≤ maxLen) :
    MOwn f m e (w.alloc (.cells (mcat f l).toArray e)) base (some ⟨w.heap.size, 0, none⟩) l.length l.length l := by
  have h := World.ownsRow_lit (e := e) (size := m) w (mcat f l).toArray l.length hb hl (by simp [mcat_length hm])
  exact ⟨h, rfl⟩
end MOwn

theorem run_append_mrow {α : Type} {f : α → List Value} {m : Nat} {t e : TypeId} {bytes : Nat} (E : MElem f m t e bytes) (w : World) (base : Nat) (ty : TypeId) (A : Option Addr) (n c : Nat) (l : List α) (hown : MOwn f m e w base A n c l)
    (B : Nat) (A2 : Option Addr) (q c2 : Nat) (l2 : List α) (hl2 : l2.length = q) (hb : MRow f m w B A2 l2) (hbytes : (n + q) * bytes ≤ 140737488355328) (hq : n + q ≤ maxLen) (hbase : base ≤ w.heap.size) :
    ∃ A' c' w', (Builtin.append_ #[t, t] ty #[.slice A n c, .slice A2 q c2]).run Try.prog w = .ok (.slice A' (n + q) c') w' ∧
      MOwn f m e w' base A' (n + q) c' (l ++ l2) ∧ w.grownBy w' (blk A) ∧ (blk A' = blk A ∨ blk A' = some w.heap.size) := by
  obtain ⟨i0, z, hi0, hz0, hz1, hz2, hzc⟩ := E.info
  have hpos := E.pos
  rcases A2 with _ | ad
  · have hm := hb.none_
    subst hm
    obtain rfl : 0 = q := by simpa using hl2
    refine ⟨A, c, w, ?_, by simpa using hown, World.grownBy.refl w _, .inl rfl⟩
    rcases hown.1.2 with ⟨hv, rfl⟩ | ⟨g, cap, cur, hv, _, _, hnc, _⟩
    · injection hv with h1 _ h3
      subst h1 h3
      simp [Builtin.append_, run_underlying E.under, sizeOf, typeInfo, hi0, Builtin.lenOf, Builtin.firstCells]
    · injection hv with h1 h2 h3
      subst h1 h3
      simp [Builtin.append_, run_underlying E.under, sizeOf, typeInfo, hi0, Builtin.lenOf, Builtin.firstCells, hnc, storeCells]
  · obtain ⟨v', w', hrun, h2, h3, _, h5⟩ := run_append_own_at (P := Try.prog) w base t ty e i0 z m bytes E.under hi0 hz0 hz1 hz2 hzc hpos (.slice A n c) n (mcat f l) hown.1
      ad q c2 (mcat f l2) (by rw [mcat_length E.len, hl2]) (hb.news E.len E.pos) (by intro u hu; obtain ⟨x, _, hx⟩ := List.mem_flatMap.1 hu; exact E.one x u hx) hq hbytes hbase
    rw [← mcat_append] at h2
    rw [ownBlock_eq] at h3 h5
    have hlen : (l ++ l2).length = n + q := by rw [List.length_append, hown.2, hl2]
    rcases h2.2 with ⟨rfl, h0⟩ | ⟨g, cap, cur, rfl, _⟩
    · refine ⟨none, 0, w', ?_, ?_, h3, h5⟩
      · rw [h0]; exact hrun
      · refine ⟨?_, hlen⟩; rw [h0] at h2 ⊢; exact h2
    · exact ⟨_, cap, w', hrun, ⟨h2, hlen⟩, h3, h5⟩

theorem wpList_append_mrow {α : Type} {f : α → List Value} {m : Nat} {t e : TypeId} {bytes : Nat} (E : MElem f m t e bytes) {w : World} {ops : Array Oper} {rest : List Oper} {o : Oper} {a : Act} {Q : Exit → Act → World → Prop} (hw : Region.wanted o (yielded ops a.tmps) = true) (s x : Operand)
    (ho : o.op = .call { callee := .builtin .append, args := #[s, x], argTypes := #[t, t] })
    (base : Nat) (A : Option Addr) (n c : Nat) (l : List α) (hs : a.eval s = .slice A n c) (hown : MOwn f m e w base A n c l)
    (B : Nat) (A2 : Option Addr) (q c2 : Nat) (l2 : List α) (hx : a.eval x = .slice A2 q c2) (hl2 : l2.length = q) (hb : MRow f m w B A2 l2) (hbytes : (n + q) * bytes ≤ 140737488355328) (hq : n + q ≤ maxLen) (hbase : base ≤ w.heap.size)
    (h : ∀ A' c' w', MOwn f m e w' base A' (n + q) c' (l ++ l2) → w.grownBy w' (blk A) → (blk A' = blk A ∨ blk A' = some w.heap.size) → wpList Try.prog ops Q rest (a.put o.dst (.slice A' (n + q) c')) w') :
    wpList Try.prog ops Q (o :: rest) a w := by
  obtain ⟨A', c', w', hrun, h2, h3, h4⟩ := run_append_mrow E w base o.type A n c l hown B A2 q c2 l2 hl2 hb hbytes hq hbase
  refine wpList_step fun K hK => ?_
  rw [if_pos hw]
  unfold Oper.wp execOp
  simp only [ho, resolve, invoke, builtin, Sem.run_bind, Sem.run_pure, Result.andThen_ok, List.map_toArray, List.map_cons, List.map_nil, hs, hx, hrun]
  exact hK _ _ (h A' c' w' h2 h3 h4)

end Go.Proofs.Ytgjopffdgdimlaa

/- Rows in a fence: kept where no row is written; append in a fenced walk. -/
namespace Go.Proofs.Ytgjopffdgdimlaa
open Go.RowKit Go.Shelf
set_option maxRecDepth 100000

theorem rown_cells {α : Type} {f : α → Value} {e : TypeId} {w : World} {base n c k : Nat} {A : Option Addr} {l : List α} {o : Obj} (h : ROwn f e w base A n c l) (hk : blk A = some k) (ho : w.heap[k]? = some o) : o.isCells = true := by
  rcases h.2 with ⟨hv, _⟩ | ⟨g, cap, cur, hv, _, hg, _⟩
  · injection hv with h1; subst h1; cases hk
  · injection hv with h1
    subst h1
    have e' : g = k := by simpa [blk] using hk
    subst e'
    rw [hg] at ho
    cases ho
    rfl
theorem rown_kept {α : Type} {f : α → Value} {e : TypeId} {w w' : World} {base n c : Nat} {A : Option Addr} {l : List α} {row : Option Nat} (h : ROwn f e w base A n c l) (hg : w.grownBy w' row) (hr : ∀ r, row = some r → ∃ o : Obj, w.heap[r]? = some o ∧ o.isCells = false) : ROwn f e w' base A n c l := by
  refine h.kept hg ?_
  cases row with
  | none => cases hA : blk A <;> simp
  | some r =>
    refine .inr fun e => ?_
    obtain ⟨o, ho, hc⟩ := hr r rfl
    rw [rown_cells h e ho] at hc
    cases hc
theorem wpListIn_append_row {α : Type} {f : α → Value} {t e : TypeId} {bytes : Nat} (E : Elem f t e bytes) {F : Fence} {k : Nat} {w : World} {ops : Array Oper} {rest : List Oper} {o : Oper} {a : Act} {Q : Exit → Act → World → Prop} (hgd : o.guard = none) (s x : Operand)
    (ho : o.op = .call { callee := .builtin .append, args := #[s, x], argTypes := #[t, t] })
    (base : Nat) (A : Option Addr) (n c : Nat) (l : List α) (hs : a.eval s = .slice A n c) (hown : ROwn f e w base A n c l)
    (B : Nat) (A2 : Option Addr) (m c2 : Nat) (l2 : List α) (hx : a.eval x = .slice A2 m c2) (hl2 : l2.length = m) (hb : Row f w B A2 l2) (hbytes : (n + m) * bytes ≤ 140737488355328) (hm : n + m ≤ maxLen) (hbase : base ≤ w.heap.size)
    (h : ∀ A' c' w', ROwn f e w' base A' (n + m) c' (l ++ l2) → w.grownBy w' (blk A) → (blk A' = blk A ∨ blk A' = some w.heap.size) → wpListIn F k Try.prog ops Q rest (a.put o.dst (.slice A' (n + m) c')) w') :
    wpListIn F k Try.prog ops Q (o :: rest) a w := by
  obtain ⟨A', c', w', hrun, h2, h3, h4⟩ := run_append_row E w base o.type A n c l hown B A2 m c2 l2 hl2 hb hbytes hm hbase
  refine wpListIn_plain hgd fun K hK' => ?_
  unfold Oper.wpIn
  refine ⟨by simp [Oper.about, ho, resolve, Target.leads, Sem.run_pure], ?_⟩
  rw [Oper.semAt_plain F _ _ (by rw [ho]; intro c hc; cases hc)]
  simp only [execOp, ho, resolve, invoke, builtin, Sem.run_bind, Sem.run_pure, Result.andThen_ok, List.map_toArray, List.map_cons, List.map_nil, hs, hx, hrun]
  exact hK' _ _ (h A' c' w' h2 h3 h4)
end Go.Proofs.Ytgjopffdgdimlaa

/- A loop over an iterator that yields a list of pairs, one behind the other: the law, with the place as the ghost; the iterator may make memory between. -/
namespace Go.Proofs.Ytgjopffdgdimlaa
open Go.RowKit Go.Shelf
set_option maxRecDepth 100000


/-- How a round may be left: it goes on to the next place, or it breaks. -/
def seq2Post (I : Nat → World → Prop) (Ix : World → Prop) (id k : Nat) (W : World) : Exit → Act → World → Prop
  | .normal, _, W' => KeepsOthers W W' ∧ I (k + 1) W'
  | .exit j, _, W' => j = id ∧ KeepsOthers W W' ∧ Ix W'
  | _, _, _ => False

/-- The iterator gf, with what it captured, yields the pairs vs one behind the other, as long as what it reads (S) stays; it may make memory between. -/
def Yields2 (n gf : Nat) (lb : Array Value) (vs : List (Value × Value)) (S : World → Prop) : Prop :=
  ∀ (l : Nat) (J : Nat → World → Prop) (Jx : World → Prop) (W : World), (∀ k W1, J k W1 → S W1) → (∀ k W1 W2, J k W1 → Below W1.heap.size W1 W2 → J k W2) →
    (∀ k W1, (h : k < vs.length) → J k W1 → YieldAt Fence.wide (n - 1) Try.prog l #[vs[k].1, vs[k].2] W1 fun e W' => (e = .returned (.bool true) ∧ J (k + 1) W') ∨ (e = .returned (.bool false) ∧ Jx W')) →
    J 0 W → CallsIn Fence.wide n Try.prog gf (#[.func (.yield l) #[] #[]] ++ lb) W fun e W' => (∃ v, e = .returned v) ∧ (J vs.length W' ∨ Jx W')

theorem ownFrom_below {base : Nat} {I : Nat → World → Prop} (h : OwnFrom base I) {k : Nat} {W W' : World} (hi : I k W) (hb : Below W.heap.size W W') : I k W' :=
  h k W W' none hi ⟨hb.os, hb.tape, hb.output, hb.size, fun j hj _ => hb.block j hj⟩ (fun r e => by cases e)

section law
variable {n gf id : Nat} {vs : List (Value × Value)} {S : World → Prop} {g : Operand} {ps : Array Tmp} {assign body : Code} {Q : Exit → Act → World → Prop} {a : Act} {w : World} {lb : Array Value}
theorem wpIn_seq2 (hg : a.eval g = .func (.func gf) #[] lb) (eg : ∀ args w, (callFunc gf args).run Try.prog w = .ok (.enter gf args) w) (hseq : Yields2 (n - 1) gf lb vs S) (hps : ps.size = 2)
    (I : Nat → World → Prop) (Ix : World → Prop) (hI : OwnFrom w.heap.size I) (hIx : OwnFrom w.heap.size fun (_ : Unit) => Ix) (hIS : ∀ k W, I k W → S W) (h0 : I 0 w) (R : Nat → Act → World → Prop) (hR : ∀ a1, OwnFrom w.heap.size fun k W => R k a1 W)
    (hassign : ∀ (l k : Nat) (W : World) (h : k < vs.length), I k W → ∀ (K : Act → World → Prop), (∀ a1 W', KeepsOthers W W' → R k a1 W' → K a1 W') →
      assign.wpIn (Fence.wide.inRound l) (n - 1 - 1) Try.prog (Exit.then K (fun _ _ _ => False)) { tmps := (ps.zip #[vs[k].1, vs[k].2]).foldl (fun t (p, v) => t.setIfInBounds p v) a.tmps, defers := [] } W)
    (hbody : ∀ (l k : Nat) (a1 : Act) (W : World) (h : k < vs.length), R k a1 W → body.wpIn (Fence.wide.inRound l) (n - 1 - 1) Try.prog (seq2Post I Ix id k W) a1 W)
    (hdone : ∀ (D : Nat) (W : World), w.heap.size ≤ D → I vs.length W → W.heap[D]? = some (.deferred (some [])) → Q .normal { a with defers := { target := .collected D, args := #[] } :: a.defers } W)
    (hstop : ∀ (D : Nat) (W : World), w.heap.size ≤ D → Ix W → W.heap[D]? = some (.deferred (some [])) → (Code.exit id).wpIn Fence.wide n Try.prog Q { a with defers := { target := .collected D, args := #[] } :: a.defers } W) :
    (Code.rangeFunc g ps assign body).wpIn Fence.wide n Try.prog Q a w := by
  refine wpIn_rangeFunc fun fn hfn => ?_
  -- the record, in the states that it comes to
  generalize hrc : (fun (st : LoopState) (pe : Option Code) => ({ state := st, pending := pe, fn, tmps := a.tmps, params := ps, assign, body, defers := w.heap.size } : Loop)) = rc
  have erc : ∀ st pe, rc st pe = { state := st, pending := pe, fn, tmps := a.tmps, params := ps, assign, body, defers := w.heap.size } := fun st pe => by rw [← hrc]
  generalize hW1 : (w.alloc (.deferred (some []))).alloc (.loop (rc .ready none)) = W1
  have sz1 : (w.alloc (.deferred (some []))).heap.size = w.heap.size + 1 := by simp
  have rec1 : W1.heap[w.heap.size + 1]? = some (.loop (rc .ready none)) := by
    rw [← hW1, ← sz1]; exact World.alloc_heap_new _ _
  have def1 : W1.heap[w.heap.size]? = some (.deferred (some [])) := by
    rw [← hW1, Below.heap_alloc _ _ _ (by omega)]; exact World.alloc_heap_new w _
  have inv1 : I 0 W1 := by rw [← hW1]; exact hI.alloc _ (hI.alloc _ h0)
  have henter : (Instr.enterLoop fn a.tmps ps assign body Fence.wide.round).run Try.prog w = .ok (w.heap.size + 1, [{ target := .collected w.heap.size, args := #[] }]) W1 := by
    rw [← hW1, erc]; exact run_enterLoop_outer _ _ _ _ _
  refine ⟨_, _, W1, { target := .fn (.func gf) lb, args := #[.func (.yield (w.heap.size + 1)) #[] #[]] }, W1, gf, #[.func (.yield (w.heap.size + 1)) #[] #[]] ++ lb, W1, henter, ?_, fun _ _ => trivial, ?_, (fun h => by cases h), ?_⟩
  · simp only [resolve, hg]
    simp [go_sem]
  · simp [invoke, go_sem, eg]
  -- what lies between two rounds, and behind the last
  refine (hseq (w.heap.size + 1) (fun k W => I k W ∧ W.heap[w.heap.size + 1]? = some (.loop (rc .ready none)) ∧ W.heap[w.heap.size]? = some (.deferred (some [])))
    (fun W => Ix W ∧ W.heap[w.heap.size + 1]? = some (.loop (rc .done (some (.exit id)))) ∧ W.heap[w.heap.size]? = some (.deferred (some []))) W1 (fun k W h => hIS k W h.1) (fun k W W2 h hb => ⟨ownFrom_below hI h.1 hb, by have := (Array.getElem?_eq_some_iff.1 h.2.1).1; rw [hb.block _ this]; exact h.2.1, by have := (Array.getElem?_eq_some_iff.1 h.2.2).1; rw [hb.block _ this]; exact h.2.2⟩) ?_ ⟨inv1, rec1, def1⟩).mono ?_
  · rintro m W hm ⟨hi, hl, hk⟩
    have hlt : w.heap.size + 1 < W.heap.size := (Array.getElem?_eq_some_iff.1 hl).1
    have hy := run_yield (P := Try.prog) (args := #[vs[m].1, vs[m].2]) hl (by rw [erc]; exact hps.symm)
    rw [erc] at hy
    refine ⟨fn, _, assign, body, hy, roundIn_of_wpIn hfn (hassign _ m W hm hi _ ?_)⟩
    intro a' W' hko' hRm
    have hl' := hko'.same _ _ hl rfl
    have hk' := hko'.same _ _ hk rfl
    have hlt' : w.heap.size + 1 < W'.heap.size := (Array.getElem?_eq_some_iff.1 hl').1
    have hbg := run_beginRound (P := Try.prog) hl' (by rw [erc])
    generalize hWb : W'.putObj (w.heap.size + 1) (.loop { rc .ready none with state := .busy }) = Wb at hbg
    have busy : Wb.heap[w.heap.size + 1]? = some (.loop { rc .ready none with state := .busy }) := by rw [← hWb]; exact World.putObj_heap_same hlt'
    have defb : Wb.heap[w.heap.size]? = some (.deferred (some [])) := by rw [← hWb, World.putObj_heap_other (by omega)]; exact hk'
    have invb : R m a' Wb := by rw [← hWb]; exact (hR a').putObj (s := m) _ hRm (by omega) hl' rfl
    refine ⟨Wb, hbg, wpIn_mono (hbody _ m a' Wb hm invb) ?_⟩
    -- the end of a round
    have fin : ∀ (jump : Option Code) (W3 : World), KeepsOthers Wb W3 → ∃ st W4, (Instr.endRound (w.heap.size + 1) jump).run Try.prog W3 = .ok (.bool jump.isNone) W4 ∧ st = (if jump.isNone then LoopState.ready else LoopState.done) ∧
        W4 = W3.putObj (w.heap.size + 1) (.loop (rc st jump)) ∧ W3.heap[w.heap.size + 1]? = some (.loop { rc .ready none with state := .busy }) ∧ W4.heap[w.heap.size + 1]? = some (.loop (rc st jump)) ∧ W4.heap[w.heap.size]? = some (.deferred (some [])) := fun jump W3 hko => by
      have b3 := hko.same _ _ busy rfl
      have he := run_endRound (P := Try.prog) jump b3
      refine ⟨_, _, he, rfl, by rw [erc, erc], b3, ?_, ?_⟩
      · rw [World.putObj_heap_same (Array.getElem?_eq_some_iff.1 b3).1, erc, erc]
      · rw [World.putObj_heap_other (by omega)]; exact hko.same _ _ defb rfl
    rintro e a3 W3 hp
    cases e with
    | normal =>
      obtain ⟨st, W4, hr, rfl, hW4, b3, r4, d4⟩ := fin none W3 hp.1
      exact ⟨_, W4, hr, .inl ⟨rfl, by rw [hW4]; exact hI.putObj _ hp.2 (by omega) b3 rfl, r4, d4⟩⟩
    | exit j =>
      obtain ⟨rfl, hp⟩ := hp
      obtain ⟨st, W4, hr, rfl, hW4, b3, r4, d4⟩ := fin (some (.exit j)) W3 hp.1
      exact ⟨_, W4, hr, .inr ⟨rfl, by rw [hW4]; exact hIx.putObj (s := ()) _ hp.2 (by omega) b3 rfl, r4, d4⟩⟩
    | ret => exact hp.elim
    | goto _ => exact hp.elim
    | panic _ => exact hp.elim
    | outgrown => exact hp.elim
  · rintro e W2 ⟨⟨v, rfl⟩, (⟨hi, hl, hk⟩ | ⟨hi, hl, hk⟩)⟩
    · have hend := run_endLoop (P := Try.prog) hl (by rw [erc]; simp)
      rw [show (rc .ready none).pending = none from by rw [erc]] at hend
      exact ⟨none, _, hend, hdone _ _ (Nat.le_refl _) (hI.putObj _ hi (by omega) hl rfl) ((World.putObj_heap_other (by omega)).trans hk)⟩
    · have hend := run_endLoop (P := Try.prog) hl (by rw [erc]; simp)
      rw [show (rc .done (some (.exit id))).pending = some (.exit id) from by rw [erc]] at hend
      exact ⟨some (.exit id), _, hend, hstop _ _ (Nat.le_refl _) (hIx.putObj (s := ()) _ hi (by omega) hl rfl) ((World.putObj_heap_other (by omega)).trans hk)⟩
end law

theorem mown_cells {α : Type} {f : α → List Value} {m : Nat} {e : TypeId} {w : World} {base n c k : Nat} {A : Option Addr} {l : List α} {o : Obj} (h : MOwn f m e w base A n c l) (hk : blk A = some k) (ho : w.heap[k]? = some o) : o.isCells = true := by
  rcases h.1.2 with ⟨hv, _⟩ | ⟨g, cap, cur, hv, _, hg, _⟩
  · injection hv with h1; subst h1; cases hk
  · injection hv with h1
    subst h1
    have e' : g = k := by simpa [blk] using hk
    subst e'
    rw [hg] at ho
    cases ho
    rfl
theorem mown_kept {α : Type} {f : α → List Value} {m : Nat} {e : TypeId} {w w' : World} {base n c : Nat} {A : Option Addr} {l : List α} {row : Option Nat} (h : MOwn f m e w base A n c l) (hg : w.grownBy w' row) (hr : ∀ r, row = some r → ∃ o : Obj, w.heap[r]? = some o ∧ o.isCells = false) : MOwn f m e w' base A n c l := by
  refine h.kept hg ?_
  cases row with
  | none => cases hA : blk A <;> simp
  | some r =>
    refine .inr fun e => ?_
    obtain ⟨o, ho, hc⟩ := hr r rfl
    rw [mown_cells h e ho] at hc
    cases hc
theorem wpListIn_append_mrow {α : Type} {f : α → List Value} {m : Nat} {t e : TypeId} {bytes : Nat} (E : MElem f m t e bytes) {F : Fence} {k : Nat} {w : World} {ops : Array Oper} {rest : List Oper} {o : Oper} {a : Act} {Q : Exit → Act → World → Prop} (hgd : o.guard = none) (s x : Operand)
    (ho : o.op = .call { callee := .builtin .append, args := #[s, x], argTypes := #[t, t] })
    (base : Nat) (A : Option Addr) (n c : Nat) (l : List α) (hs : a.eval s = .slice A n c) (hown : MOwn f m e w base A n c l)
    (B : Nat) (A2 : Option Addr) (q c2 : Nat) (l2 : List α) (hx : a.eval x = .slice A2 q c2) (hl2 : l2.length = q) (hb : MRow f m w B A2 l2) (hbytes : (n + q) * bytes ≤ 140737488355328) (hq : n + q ≤ maxLen) (hbase : base ≤ w.heap.size)
    (h : ∀ A' c' w', MOwn f m e w' base A' (n + q) c' (l ++ l2) → w.grownBy w' (blk A) → (blk A' = blk A ∨ blk A' = some w.heap.size) → wpListIn F k Try.prog ops Q rest (a.put o.dst (.slice A' (n + q) c')) w') :
    wpListIn F k Try.prog ops Q (o :: rest) a w := by
  obtain ⟨A', c', w', hrun, h2, h3, h4⟩ := run_append_mrow E w base o.type A n c l hown B A2 q c2 l2 hl2 hb hbytes hq hbase
  refine wpListIn_plain hgd fun K hK' => ?_
  unfold Oper.wpIn
  refine ⟨by simp [Oper.about, ho, resolve, Target.leads, Sem.run_pure], ?_⟩
  rw [Oper.semAt_plain F _ _ (by rw [ho]; intro c hc; cases hc)]
  simp only [execOp, ho, resolve, invoke, builtin, Sem.run_bind, Sem.run_pure, Result.andThen_ok, List.map_toArray, List.map_cons, List.map_nil, hs, hx, hrun]
  exact hK' _ _ (h A' c' w' h2 h3 h4)

end Go.Proofs.Ytgjopffdgdimlaa

/- Columns of numbers, some missing: what the document says, on plain lists. -/
namespace Go.Proofs.Ytgjopffdgdimlaa

/-- is a cell not formed? -/
def Ict.bad (c : Bool × Int) : Bool := !c.1 && c.2 != 0
/-- is it a column? -/
def Ict.formed (l : List (Bool × Int)) : Bool := decide (l.length ≤ 4096) && !l.any Ict.bad
def Ict.mark (c : Bool × Int) : UInt64 := if c.1 then 1 else 0
def Ict.marks (l : List (Bool × Int)) : List UInt64 := l.map Ict.mark
def Ict.nums (l : List (Bool × Int)) : List Int := (l.filter (·.1)).map (·.2)
theorem Ict.marks_length (l : List (Bool × Int)) : (Ict.marks l).length = l.length := by simp [Ict.marks]
theorem Ict.nums_length (l : List (Bool × Int)) : (Ict.nums l).length ≤ l.length := by simp [Ict.nums]; exact List.length_filter_le _ _
theorem Ict.nums_snoc (l : List (Bool × Int)) (c : Bool × Int) : Ict.nums (l ++ [c]) = Ict.nums l ++ (if c.1 then [c.2] else []) := by
  unfold Ict.nums
  rw [List.filter_append, List.map_append]
  rcases c with ⟨h, z⟩
  cases h <;> simp
/-- a column's numbers are int64s -/
def Ict.fits (l : List (Bool × Int)) : Prop := ∀ c ∈ l, -9223372036854775808 ≤ c.2 ∧ c.2 ≤ 9223372036854775807
/-- a granule's zone, one cell more -/
def Ict.zadd (z : Bool × Int × Int) (c : Bool × Int) : Bool × Int × Int := if c.1 then (if z.1 then (true, min z.2.1 c.2, max z.2.2 c.2) else (true, c.2, c.2)) else z
def Ict.zone (l : List (Bool × Int)) : Bool × Int × Int := l.foldl Ict.zadd (false, 0, 0)
/-- a granule's cells -/
def Ict.gran (l : List (Bool × Int)) (g : Nat) : List (Bool × Int) := (l.drop (16 * g)).take 16
def Ict.zoneAt (l : List (Bool × Int)) (g : Nat) : Bool × Int × Int := Ict.zone (Ict.gran l g)
/-- how many granules -/
def Ict.count (l : List (Bool × Int)) : Nat := if Ict.formed l then (l.length + 15) / 16 else 0
def Ict.zones (l : List (Bool × Int)) : List (Bool × Int × Int) := (List.range (Ict.count l)).map (Ict.zoneAt l)
/-- the granules whose zone is asked for -/
def Ict.where (l : List (Bool × Int)) (p : Bool × Int × Int → Bool) (k : Nat) : List Int := ((List.range k).filter fun g => (Ict.zoneAt l g).1 && p (Ict.zoneAt l g)).map fun g => ((g : Nat) : Int)
theorem Ict.where_succ (l : List (Bool × Int)) (p : Bool × Int × Int → Bool) (k : Nat) : Ict.where l p (k + 1) = Ict.where l p k ++ (if (Ict.zoneAt l k).1 && p (Ict.zoneAt l k) then [(k : Int)] else []) := by
  unfold Ict.where
  rw [List.range_succ, List.filter_append, List.map_append]
  congr 1
  rcases h : ((Ict.zoneAt l k).1 && p (Ict.zoneAt l k)) with _ | _ <;> simp [h]
theorem Ict.where_length (l : List (Bool × Int)) (p : Bool × Int × Int → Bool) (k : Nat) : (Ict.where l p k).length ≤ k := by
  unfold Ict.where
  rw [List.length_map]
  exact Nat.le_trans (List.length_filter_le _ _) (by simp)
def Ict.pbelow (n : Int) (z : Bool × Int × Int) : Bool := decide (z.2.1 < n)
def Ict.pabove (n : Int) (z : Bool × Int × Int) : Bool := decide (n < z.2.2)
def Ict.below (l : List (Bool × Int)) (n : Int) : List Int := Ict.where l (Ict.pbelow n) (Ict.count l)
def Ict.above (l : List (Bool × Int)) (n : Int) : List Int := Ict.where l (Ict.pabove n) (Ict.count l)
theorem Ict.count_le (l : List (Bool × Int)) : Ict.count l ≤ 256 := by
  unfold Ict.count
  split
  · rename_i h
    simp only [Ict.formed, Bool.and_eq_true, decide_eq_true_eq] at h
    omega
  · omega

/-- the encoding of a column -/
def Ict.head (l : List (Bool × Int)) : List UInt8 := Num.num l.length ++ (Bits.pack (Ict.marks l) 1).1
def Ict.bytes (l : List (Bool × Int)) : List UInt8 := Ict.head l ++ Pfor.list (foldL (Ict.nums l))
/-- what Put answers -/
def Ict.put (b : List UInt8) (l : List (Bool × Int)) : List UInt8 × Nat := if Ict.formed l then (b ++ Ict.bytes l, 0) else ([], 1)
theorem Ict.fits_nums {l : List (Bool × Int)} (h : Ict.fits l) : Fits64 (Ict.nums l) := by
  intro z hz
  unfold Ict.nums at hz
  obtain ⟨c, hc, rfl⟩ := List.mem_map.1 hz
  exact h c (List.mem_filter.1 hc).1
theorem Pfor.blocks_length_32 (l : List UInt64) : (Pfor.blocks l).length ≤ 268 * ((l.length + 31) / 32) := by
  induction hn : l.length using Nat.strongRecOn generalizing l with
  | ind n ih =>
    by_cases h : l = []
    · subst h; rw [Pfor.blocks_nil]; simp
    · have hpos : 0 < l.length := List.length_pos_iff.2 h
      rw [Pfor.blocks_cons h, List.length_append]
      have h1 := Pfor.block_length_le (l := l.take 32) (by simp; omega)
      have h2 := ih (l.drop 32).length (by simp; omega) (l.drop 32) rfl
      rw [List.length_drop] at h2
      omega
end Go.Proofs.Ytgjopffdgdimlaa

/- Columns and zones as slices of several cells each. -/
namespace Go.Proofs.Ytgjopffdgdimlaa
open Go.RowKit
set_option maxRecDepth 100000

theorem cell_info : (Try.prog.info? 46).map (fun i => (i.zero, i.size, i.bytes)) = some (some (.agg #[.bool false, .int .i64 0]), 2, 16) := by kernel_rfl
/-- a cell's cells, and the cell as a value -/
def cellV (c : Bool × Int) : List Value := [.bool c.1, .int .i64 c.2]
def cval (c : Bool × Int) : Value := .agg #[.bool c.1, .int .i64 c.2]
theorem elemC : MElem cellV 2 23 46 16 := ⟨fun _ => rfl, by omega, fun x u hu => by
  simp only [cellV, List.mem_cons, List.not_mem_nil, or_false] at hu
  rcases hu with rfl | rfl <;> rfl, Try.underlying23, by
  obtain ⟨i0, hi0, hz0, hz1, hz2⟩ := info_parts cell_info
  exact ⟨i0, _, hi0, hz0, hz1, hz2, rfl⟩⟩
/-- A slice with address A holds the column l, in a block below B. -/
abbrev Cols (w : World) (B : Nat) (A : Option Addr) (l : List (Bool × Int)) : Prop := MRow cellV 2 w B A l
abbrev COwn (w : World) (base : Nat) (A : Option Addr) (n c : Nat) (l : List (Bool × Int)) : Prop := MOwn cellV 2 46 w base A n c l
theorem addr_next (ad : Addr) (i : Nat) : (⟨(ad.add i).block, (ad.add i).off + 1, none⟩ : Addr) = ad.add (i + 1) := by
  rw [← addr_add_add]
  rfl
theorem Cols.at_ {w : World} {B : Nat} {A : Option Addr} {l : List (Bool × Int)} (h : Cols w B A l) {k : Nat} (hk : k < l.length) :
    ∃ ad, A = some ad ∧ ad.block < B ∧ w.cell? (ad.add (k * 2)) = some (.bool l[k].1) ∧ w.cell? (ad.add (k * 2 + 1)) = some (.int .i64 l[k].2) ∧ w.cell? ⟨(ad.add (k * 2)).block, (ad.add (k * 2)).off + 1, none⟩ = some (.int .i64 l[k].2) := by
  obtain ⟨ad, ha, hb, hc⟩ := MRow.get h hk
  have h0 := hc 0 (by omega)
  have h1 := hc 1 (by omega)
  rw [Nat.add_zero] at h0
  exact ⟨ad, ha, hb, h0, h1, by rw [addr_next]; exact h1⟩

theorem zone_info : (Try.prog.info? 41).map (fun i => (i.zero, i.size, i.bytes)) = some (some (.agg #[.bool false, .int .i64 0, .int .i64 0]), 3, 24) := by kernel_rfl
def zoneV (z : Bool × Int × Int) : List Value := [.bool z.1, .int .i64 z.2.1, .int .i64 z.2.2]
def zval (z : Bool × Int × Int) : Value := .agg #[.bool z.1, .int .i64 z.2.1, .int .i64 z.2.2]
end Go.Proofs.Ytgjopffdgdimlaa

/- Slices of zones. -/
namespace Go.Proofs.Ytgjopffdgdimlaa
open Go.RowKit
set_option maxRecDepth 100000
theorem elemZ : MElem zoneV 3 38 41 24 := ⟨fun _ => rfl, by omega, fun x u hu => by
  simp only [zoneV, List.mem_cons, List.not_mem_nil, or_false] at hu
  rcases hu with rfl | rfl | rfl <;> rfl, Try.underlying38, by
  obtain ⟨i0, hi0, hz0, hz1, hz2⟩ := info_parts zone_info
  exact ⟨i0, _, hi0, hz0, hz1, hz2, rfl⟩⟩
abbrev Zons (w : World) (B : Nat) (A : Option Addr) (l : List (Bool × Int × Int)) : Prop := MRow zoneV 3 w B A l
abbrev ZOwn (w : World) (base : Nat) (A : Option Addr) (n c : Nat) (l : List (Bool × Int × Int)) : Prop := MOwn zoneV 3 41 w base A n c l
end Go.Proofs.Ytgjopffdgdimlaa

/- A column that comes in as an argument. -/
namespace Go.Proofs.Ytgjopffdgdimlaa
open Go.ChangeShapes Go.WideShapes Go.ChangeAt Go.RowKit Go.Deep
set_option maxRecDepth 100000

theorem cellsOfC : Try.prog.cellsOf 46 = 2 := by kernel_rfl
theorem bytesOfC : Try.prog.bytesOf 46 = 16 := by kernel_rfl
theorem open_cells {H : Type} {enc : TypeId × Value → H} {W : World} {a : Option Addr} {len cap : Nat} {d : DataW H} {p : List MemPlace}
    (h : DataW.Trod enc Try.prog W 0 (fun _ => true) true 23 (.slice a len cap) d p) :
    ∃ l : List (Bool × Int), l.length = len ∧ len ≤ cap ∧ Ict.fits l ∧ Cols W W.heap.size a l ∧ (d = .nil ∧ len = 0 ∨ ∃ elems spare, d = .slice elems spare ∧ elems.length = len) := by
  obtain ⟨fuel, hf⟩ := h
  rcases open_slice_pairs Try.underlying23 Try.underlying46 cellsOfC rfl rfl (by kernel_rfl) (by kernel_rfl) hf with ⟨hcs, hx⟩ | ⟨x, ln, c, m, n, V0, V1, D0, D1, P0, P1, hcs, _, hl, hm, hmm, hx, hat⟩
  · simp [Value.cells] at hcs
    obtain ⟨rfl, rfl, rfl⟩ := hcs
    injection hx with hx1 hx2
    exact ⟨[], rfl, Nat.le_refl _, (fun _ h => by cases h), MRow.nil _ _ _ _ _, .inl ⟨hx1, rfl⟩⟩
  · simp [Value.cells] at hcs
    obtain ⟨rfl, rfl, rfl⟩ := hcs
    injection hx with hx1 hx2
    simp only [if_true] at hmm
    subst hmm
    have each : ∀ i, i < len → ∃ q : Bool × Int, W.cell? (x.add (i * 2)) = some (.bool q.1) ∧ W.cell? (x.add (i * 2 + 1)) = some (.int .i64 q.2) ∧ -9223372036854775808 ≤ q.2 ∧ q.2 ≤ 9223372036854775807 := fun i hi => by
      obtain ⟨c0, c1, h0, h1⟩ := hat i (by omega)
      obtain ⟨b, e0, _⟩ := DataW.trod_bool Try.underlying4 h0
      obtain ⟨z, e1, _, z0⟩ := DataW.trod_int Try.underlying3 h1
      simp only [List.cons.injEq, and_true] at e0 e1
      have hb := bounds_i64 z0
      exact ⟨(b, z), by rw [c0, e0], by rw [c1, e1], by omega, by omega⟩
    obtain ⟨f, hfs⟩ := Deep.choose_lt each
    refine ⟨(List.range len).map f, by simp, hl, ?_, fun hn => ⟨x, rfl, ?_, fun i hi j hj => ?_⟩, .inr ⟨_, _, hx1, by simp⟩⟩
    · intro q hq
      obtain ⟨i, hi, rfl⟩ := List.mem_map.1 hq
      exact ⟨(hfs i (by simpa using hi)).2.2.1, (hfs i (by simpa using hi)).2.2.2⟩
    · have h0 : 0 < len := by
        rcases Nat.eq_zero_or_pos len with h0 | h0
        · subst h0; simp at hn
        · exact h0
      have hc0 := (hfs 0 h0).1
      rcases Nat.lt_or_ge x.block W.heap.size with hlt' | hge
      · exact hlt'
      · have : (x.add (0 * 2)).block = x.block := addr_add_block x _
        simp [World.cell?, this, Array.getElem?_eq_none hge] at hc0
    · have hi' : i < len := by simpa using hi
      obtain ⟨c0, c1, _, _⟩ := hfs i hi'
      simp only [List.getElem_map, List.getElem_range, cellV]
      rcases j with _ | _ | j
      · exact c0
      · exact c1
      · omega
theorem reach_cells {H : Type} {ts : List TypeId} {ds : List (DataW H)} {j len : Nat} {d : DataW H} (h : (DataW.weightsEach Try.prog ts ds).all (· ≤ reachBytes) = true)
    (ht : ts[j]? = some 23) (hd : ds[j]? = some d) (hv : d = .nil ∧ len = 0 ∨ ∃ elems spare, d = .slice elems spare ∧ elems.length = len) : 16 * len ≤ 140737488351232 := by
  rcases hv with ⟨_, rfl⟩ | ⟨elems, spare, rfl, rfl⟩
  · omega
  · have hm := DataW.weights_mem_each (P := Try.prog) ht hd
    have hk : (elems.length + spare.length) * Try.prog.bytesOf 46 ∈ (DataW.slice elems spare : DataW H).weights Try.prog 23 := by
      rw [DataW.weights, Try.underlying23]
      exact List.mem_cons_self ..
    have h1 := List.all_eq_true.1 h _ (hm _ hk)
    rw [bytesOfC] at h1
    simp only [reachBytes] at h1
    have := of_decide_eq_true h1
    omega
end Go.Proofs.Ytgjopffdgdimlaa

/- ints.Formed with its closure and slices.ContainsFunc; the document's Formed. -/
namespace Go.Proofs.Ytgjopffdgdimlaa
open Go.RowKit
set_option maxRecDepth 100000

theorem icBad_any (c : Bool × Int) (w : World) : Calls Try.prog 31 #[cval c] w fun e w' => e = .returned (.bool (Ict.bad c)) ∧ Below w.heap.size w w' := by
  obtain ⟨h, z⟩ := c
  have HB := Lib.hid (fun o => (Below.refl w.heap.size w).alloc (Nat.le_refl _) o)
  unfold cval Ict.bad
  simp only
  go_enter Try.func31, Try.ntmps31
  cases h
  · go_wp2
    go_ret
    exact ⟨rfl, HB.out _⟩
  · go_wp2
    go_ret
    exact ⟨rfl, HB.out _⟩

/-- the place of the first cell that is not formed -/
def Ict.firstBad (l : List (Bool × Int)) : Int := match l.findIdx? Ict.bad with | some k => k | none => -1

set_option maxHeartbeats 1000000 in
theorem icIndex_any (A : Option Addr) (n cap B : Nat) (l : List (Bool × Int)) (w : World) (hl : l.length = n) (hn : n ≤ 4096) (hb : Cols w B A l) (hB : B ≤ w.heap.size) :
    Calls Try.prog 56 #[.slice A n cap, .func (.func 31) #[] #[]] w fun e w' => (∃ x : Int, e = .returned (.int .i64 x) ∧ decide (0 ≤ x) = l.any Ict.bad) ∧ Below w.heap.size w w' := by
  have Hl := Lib.hid hl; clear hl
  have hb := hb.wide hB
  go_enter Try.func56, Try.ntmps56
  go_wp2
  go_loopw [8] (fun i wr => ∃ (k : Nat), k ≤ n ∧ i = .int .i64 k ∧ (l.take k).any Ict.bad = false ∧ Below w.heap.size w wr) (fun i _ => n - (intOf i).toNat)
  case atStart => exact ⟨0, Nat.zero_le _, rfl, rfl, Below.refl _ _⟩
  case round =>
    obtain ⟨k, hk, rfl, hno, hbel⟩ := hrel
    by_cases hlt : k < n
    · have hk' : k < l.length := by have := Hl.out; omega
      obtain ⟨ad, rfl, _, hc0, hc1, hc2⟩ := Cols.at_ (hb.below hbel) hk'
      have i1 : (k : Int) < (n : Int) := by omega
      have i0 : (0 : Int) ≤ (k : Int) := by omega
      have H := Lib.hid (icBad_any l[k] wr)
      unfold cval at H
      have htk : (l.take (k + 1)).any Ict.bad = Ict.bad l[k] := by rw [List.take_succ_eq_append_getElem hk', List.any_append, hno]; simp
      have hmem := List.getElem_mem hk'
      generalize l[k] = c at *
      go_wp2_with fail
      refine H.out.mono ?_
      rintro e w2 ⟨rfl, hbel2⟩
      clear H
      have hb3 := hbel.trans (hbel2.mono hbel.size)
      rcases hbd : Ict.bad c with _ | _
      · go_wp2
        go_roundw
        case rel => exact ⟨k + 1, by omega, by go_num, by rw [htk, hbd], hb3⟩
        case measure => simp [intOf]; omega
      · go_wp2
        go_ret
        exact ⟨⟨k, rfl, by rw [decide_eq_true i0]; exact (List.any_eq_true.2 ⟨c, hmem, hbd⟩).symm⟩, hb3⟩
    · have e : l.take k = l := List.take_of_length_le (by have := Hl.out; omega)
      rw [e] at hno
      go_wp2
      go_ret
      exact ⟨⟨-1, rfl, by rw [hno]; rfl⟩, hbel⟩

theorem icHas_any (A : Option Addr) (n cap B : Nat) (l : List (Bool × Int)) (w : World) (hl : l.length = n) (hn : n ≤ 4096) (hb : Cols w B A l) (hB : B ≤ w.heap.size) :
    Calls Try.prog 30 #[.slice A n cap, .func (.func 31) #[] #[]] w fun e w' => e = .returned (.bool (l.any Ict.bad)) ∧ Below w.heap.size w w' := by
  have H := Lib.hid (icIndex_any A n cap B l w hl hn hb hB)
  go_enter Try.func30, Try.ntmps30
  go_wp2_with fail
  refine H.out.mono ?_
  rintro e w2 ⟨⟨x, rfl, hx⟩, hbel⟩
  go_wp2
  go_ret
  exact ⟨by rw [← hx]; rfl, hbel⟩

theorem formed_any (A : Option Addr) (n cap B : Nat) (l : List (Bool × Int)) (w : World) (hl : l.length = n) (hb : Cols w B A l) (hB : B ≤ w.heap.size) :
    Calls Try.prog 15 #[.slice A n cap] w fun e w' => e = .returned (.bool (Ict.formed l)) ∧ Below w.heap.size w w' := by
  by_cases hn : n ≤ 4096
  · have H := Lib.hid (icHas_any A n cap B l w hl hn hb hB)
    have e : Ict.formed l = !(l.any Ict.bad) := by unfold Ict.formed; rw [hl, decide_eq_true hn, Bool.true_and]
    rw [e]
    have hn' : (n : Int) ≤ 4096 := by omega
    clear hl hb e
    go_enter Try.func15, Try.ntmps15
    go_wp2_with fail
    refine H.out.mono ?_
    rintro e w2 ⟨rfl, hbel⟩
    go_wp2
    go_ret
    exact ⟨rfl, hbel⟩
  · have e : Ict.formed l = false := by unfold Ict.formed; rw [hl, decide_eq_false hn, Bool.false_and]
    rw [e]
    have hn' : ¬ (n : Int) ≤ 4096 := by omega
    clear hl hb e
    go_enter Try.func15, Try.ntmps15
    go_wp2
    go_ret
    exact ⟨rfl, Below.refl _ _⟩

set_option maxHeartbeats 1000000 in
theorem refFormed_any (A : Option Addr) (n cap B : Nat) (l : List (Bool × Int)) (w : World) (hl : l.length = n) (hn : 16 * n ≤ 140737488351232) (hb : Cols w B A l) :
    Calls Try.prog 16 #[.slice A n cap] w fun e w' => e = .returned (.bool (Ict.formed l)) ∧ w = w' := by
  have Hl := Lib.hid hl; clear hl
  go_enter Try.func16, Try.ntmps16
  go_wp2
  go_loopw [3] (fun i wr => ∃ (k : Nat), k ≤ n ∧ i = .int .i64 k ∧ (l.take k).any Ict.bad = false ∧ w = wr) (fun i _ => n - (intOf i).toNat)
  case atStart => exact ⟨0, Nat.zero_le _, rfl, rfl, rfl⟩
  case round =>
    obtain ⟨k, hk, rfl, hno, rfl⟩ := hrel
    by_cases hlt : k < n
    · have hk' : k < l.length := by have := Hl.out; omega
      obtain ⟨ad, rfl, _, hc0, hc1, hc2⟩ := Cols.at_ hb hk'
      have i1 : (k : Int) < (n : Int) := by omega
      have i0 : (0 : Int) ≤ (k : Int) := by omega
      have htk : (l.take (k + 1)).any Ict.bad = Ict.bad l[k] := by rw [List.take_succ_eq_append_getElem hk', List.any_append, hno]; simp
      have hmem := List.getElem_mem hk'
      generalize l[k] = c at *
      obtain ⟨h, z⟩ := c
      simp only at hc0 hc1 hc2
      unfold Ict.bad at htk
      simp only at htk
      cases h
      · by_cases hz : z = 0
        · subst hz
          go_wp2
          go_roundw
          case rel => exact ⟨k + 1, by omega, by go_num, htk, by trivial⟩
          case measure => simp [intOf]; omega
        · have hz' : (z != 0) = true := by simp [hz]
          go_wp2
          go_ret
          refine ⟨?_, rfl⟩
          have : l.any Ict.bad = true := List.any_eq_true.2 ⟨_, hmem, by simp [Ict.bad, hz]⟩
          simp [Ict.formed, this]
      · go_wp2
        go_roundw
        case rel => exact ⟨k + 1, by omega, by go_num, htk, by trivial⟩
        case measure => simp [intOf]; omega
    · have e : l.take k = l := List.take_of_length_le (by have := Hl.out; omega)
      rw [e] at hno
      have e2 : Ict.formed l = decide ((n : Int) ≤ 4096) := by
        unfold Ict.formed
        rw [hno, Hl.out, Bool.eq_iff_iff]
        simp
        omega
      go_wp2
      go_ret
      exact ⟨by rw [e2]; rfl, by trivial⟩
end Go.Proofs.Ytgjopffdgdimlaa

/- ints.zoneOf: the zone of a granule's cells. -/
namespace Go.Proofs.Ytgjopffdgdimlaa
open Go.RowKit
set_option maxRecDepth 100000

/-- the three cells of a zone in a block -/
def ZBox (w : World) (g : Nat) (z : Bool × Int × Int) : Prop := w.heap[g]? = some (.cells #[.bool z.1, .int .i64 z.2.1, .int .i64 z.2.2] 41)
namespace ZBox
variable {w w' : World} {g : Nat} {z : Bool × Int × Int}
theorem new (w : World) (z : Bool × Int × Int) : ZBox (w.alloc (.cells #[.bool z.1, .int .i64 z.2.1, .int .i64 z.2.2] 41)) w.heap.size z := by
  show (w.heap.push _)[w.heap.size]? = _
  simp
theorem cell (h : ZBox w g z) : w.cell? ⟨g, 0, none⟩ = some (.bool z.1) ∧ w.cell? ⟨g, 1, none⟩ = some (.int .i64 z.2.1) ∧ w.cell? ⟨g, 2, none⟩ = some (.int .i64 z.2.2) :=
  ⟨Go.Joins.cell_of_block h 0, Go.Joins.cell_of_block h 1, Go.Joins.cell_of_block h 2⟩
theorem lt (h : ZBox w g z) : g < w.heap.size := (Array.getElem?_eq_some_iff.1 h).1
theorem free (h : ZBox w g z) (k : Nat) : w.frozen? ⟨g, k, none⟩ = false := Go.Joins.unfrozen_of_block h k
theorem below (h : ZBox w g z) (hb : Below w.heap.size w w') : ZBox w' g z := (hb.block g h.lt).trans h
theorem kept {row : Option Nat} (h : ZBox w g z) (hg : w.grownBy w' row) (hne : some g ≠ row) : ZBox w' g z := (hg.block g h.lt hne).trans h
theorem alloc (h : ZBox w g z) (o : Obj) : ZBox (w.alloc o) g z := h.below ((Below.refl w.heap.size w).alloc (Nat.le_refl _) o)
theorem other (h : ZBox w g z) {g' : Nat} (hne : g ≠ g') (i : Nat) (v : Value) : ZBox (w.setCell ⟨g', i, none⟩ v) g z := (Below.heap_setCell w ⟨g', i, none⟩ v g hne).trans h
theorem set0 (h : ZBox w g z) (b : Bool) : ZBox (w.setCell ⟨g, 0, none⟩ (.bool b)) g (b, z.2.1, z.2.2) := (Go.Joins.block_setCell h _).trans rfl
theorem set1 (h : ZBox w g z) (x : Int) : ZBox (w.setCell ⟨g, 1, none⟩ (.int .i64 x)) g (z.1, x, z.2.2) := (Go.Joins.block_setCell h _).trans rfl
theorem set2 (h : ZBox w g z) (x : Int) : ZBox (w.setCell ⟨g, 2, none⟩ (.int .i64 x)) g (z.1, z.2.1, x) := (Go.Joins.block_setCell h _).trans rfl
theorem drew (h : ZBox w g z) : ZBox w.drew g z := h
end ZBox
theorem Ict.zone_take {l : List (Bool × Int)} {k : Nat} (hk : k < l.length) : Ict.zone (l.take (k + 1)) = Ict.zadd (Ict.zone (l.take k)) l[k] := by
  rw [List.take_succ_eq_append_getElem hk]
  unfold Ict.zone
  rw [List.foldl_append]
  rfl
theorem results_zone {fn : Func} {tmps : Array Value} {p g : Nat} {W : World} {z : Bool × Int × Int} (hz : ZBox W g z) (h : fn.results = #[.cell p 41]) (hp : tmps.getD p undef = .pointer (some ⟨g, 0, none⟩)) :
    (results fn tmps).run Try.prog W = .ok (zval z) W := by
  have hp2 : tmps[p]?.getD undef = .pointer (some ⟨g, 0, none⟩) := by rw [← Array.getD_eq_getD_getElem?]; exact hp
  obtain ⟨c0, c1, c2⟩ := hz.cell
  simp [results, h, hp2, go_sem, c0, c1, c2, zval]

set_option maxHeartbeats 2000000 in
theorem zoneOf_any (A : Option Addr) (n cap B : Nat) (l : List (Bool × Int)) (w : World) (hl : l.length = n) (hn : n ≤ 4096) (hb : Cols w B A l) (hB : B ≤ w.heap.size) :
    Calls Try.prog 68 #[.slice A n cap] w fun e w' => e = .returned (zval (Ict.zone l)) ∧ Below w.heap.size w w' := by
  have Hl := Lib.hid hl; clear hl
  have hb := hb.wide hB
  have hz0 := ZBox.new w (false, 0, 0)
  have hbel0 : Below w.heap.size w (w.alloc (.cells #[.bool false, .int .i64 0, .int .i64 0] 41)) := (Below.refl _ _).alloc (Nat.le_refl _) _
  have hs0 : (w.alloc (.cells #[.bool false, .int .i64 0, .int .i64 0] 41)).heap.size = w.heap.size + 1 := by simp
  simp only at hz0
  have hz1 := ZBox.new (w.alloc (.cells #[.bool false, .int .i64 0, .int .i64 0] 41)) (false, 0, 0)
  simp only at hz1
  rw [hs0] at hz1
  have hz2 := hz0.alloc (.cells #[.bool false, .int .i64 0, .int .i64 0] 41)
  have hbel2 := hbel0.alloc (by omega) (.cells #[.bool false, .int .i64 0, .int .i64 0] 41)
  clear hz0 hbel0 hs0
  go_enter Try.func68, Try.ntmps68
  go_wp2
  generalize (w.alloc (.cells #[.bool false, .int .i64 0, .int .i64 0] 41)).alloc (.cells #[.bool false, .int .i64 0, .int .i64 0] 41) = w0 at *
  go_loopw [8] (fun i wr => ∃ (k : Nat), k ≤ n ∧ i = .int .i64 k ∧ ZBox wr w.heap.size (false, 0, 0) ∧ ZBox wr (w.heap.size + 1) (Ict.zone (l.take k)) ∧ Below w.heap.size w wr) (fun i _ => n - (intOf i).toNat)
  case atStart => exact ⟨0, Nat.zero_le _, rfl, hz2, hz1, hbel2⟩
  case round =>
    clear hz1 hz2 hbel2
    obtain ⟨k, hk, rfl, hz0, hz1, hbel⟩ := hrel
    by_cases hlt : k < n
    · have hk' : k < l.length := by have := Hl.out; omega
      obtain ⟨ad, rfl, hadl, hc0, hc1, hc2⟩ := Cols.at_ (hb.below hbel) hk'
      have i1 : (k : Int) < (n : Int) := by omega
      have i0 : (0 : Int) ≤ (k : Int) := by omega
      have hzt := Ict.zone_take hk'
      have hgl := hz1.lt
      generalize l[k] = cl at *
      obtain ⟨h, x⟩ := cl
      simp only at hc0 hc1 hc2
      generalize Ict.zone (l.take k) = z at *
      obtain ⟨s, lo, hi⟩ := z
      obtain ⟨z0, z1, z2⟩ := hz1.cell
      have f0 := hz1.free 0
      have f1 := hz1.free 1
      have f2 := hz1.free 2
      simp only at z0 z1 z2
      have Hz := Lib.hid hzt
      have H1 := Lib.hid hz1
      have H0 := Lib.hid hz0
      have HB := Lib.hid hbel
      have hgs : w.heap.size ≤ wr.heap.size := hbel.size
      clear hzt hz1 hz0 hbel
      cases h
      · go_wp2
        go_roundw
        case rel => exact ⟨k + 1, by omega, by go_num, H0.out.alloc _, by rw [Hz.out]; exact H1.out.alloc _, HB.out.alloc hgs _⟩
        case measure => simp [intOf]; omega
      · cases s
        · have hxx : ¬ x < x := Int.lt_irrefl x
          go_wp2
          go_roundw
          case rel =>
            refine ⟨k + 1, by omega, by go_num, (((((H0.out.other (by omega) _ _).other (by omega) _ _).other (by omega) _ _).other (by omega) _ _).other (by omega) _ _).alloc _, ?_, (((((HB.out.setCell (by simp) _).setCell (by simp) _).setCell (by simp) _).setCell (by simp) _).setCell (by simp) _).alloc (by simpa using hgs) _⟩
            rw [Hz.out]
            exact (((((H1.out.set0 true).set1 x).set2 x).set1 x).set2 x).alloc _
          case measure => simp [intOf]; omega
        · have hadd : Ict.zadd (true, lo, hi) (true, x) = (true, min lo x, max hi x) := rfl
          by_cases hlo : x < lo
          · have e1 : min lo x = x := by omega
            by_cases hhi : hi < x
            · have e2 : max hi x = x := by omega
              rw [e1, e2] at hadd
              have Ha := Lib.hid hadd
              clear hadd e1 e2
              go_wp2
              go_roundw
              case rel => exact ⟨k + 1, by omega, by go_num, ((H0.out.other (by omega) _ _).other (by omega) _ _).alloc _, by rw [Hz.out, Ha.out]; exact ((H1.out.set1 x).set2 x).alloc _, ((HB.out.setCell (by simp) _).setCell (by simp) _).alloc (by simpa using hgs) _⟩
              case measure => simp [intOf]; omega
            · have e2 : max hi x = hi := by omega
              rw [e1, e2] at hadd
              have Ha := Lib.hid hadd
              clear hadd e1 e2
              go_wp2
              go_roundw
              case rel => exact ⟨k + 1, by omega, by go_num, ((H0.out.other (by omega) _ _).other (by omega) _ _).alloc _, by rw [Hz.out, Ha.out]; exact ((H1.out.set1 x).set2 hi).alloc _, ((HB.out.setCell (by simp) _).setCell (by simp) _).alloc (by simpa using hgs) _⟩
              case measure => simp [intOf]; omega
          · have e1 : min lo x = lo := by omega
            by_cases hhi : hi < x
            · have e2 : max hi x = x := by omega
              rw [e1, e2] at hadd
              have Ha := Lib.hid hadd
              clear hadd e1 e2
              go_wp2
              go_roundw
              case rel => exact ⟨k + 1, by omega, by go_num, ((H0.out.other (by omega) _ _).other (by omega) _ _).alloc _, by rw [Hz.out, Ha.out]; exact ((H1.out.set1 lo).set2 x).alloc _, ((HB.out.setCell (by simp) _).setCell (by simp) _).alloc (by simpa using hgs) _⟩
              case measure => simp [intOf]; omega
            · have e2 : max hi x = hi := by omega
              rw [e1, e2] at hadd
              have Ha := Lib.hid hadd
              clear hadd e1 e2
              go_wp2
              go_roundw
              case rel => exact ⟨k + 1, by omega, by go_num, ((H0.out.other (by omega) _ _).other (by omega) _ _).alloc _, by rw [Hz.out, Ha.out]; exact ((H1.out.set1 lo).set2 hi).alloc _, ((HB.out.setCell (by simp) _).setCell (by simp) _).alloc (by simpa using hgs) _⟩
              case measure => simp [intOf]; omega
    · rw [List.take_of_length_le (by have := Hl.out; omega)] at hz1
      rcases hzz : Ict.zone l with ⟨s, lo, hi⟩
      rw [hzz] at hz1
      have Hz := Lib.hid hzz
      clear hzz
      obtain ⟨z0, z1, z2⟩ := hz1.cell
      obtain ⟨y0, y1, y2⟩ := hz0.cell
      have f0 := hz0.free 0
      have f1 := hz0.free 1
      have f2 := hz0.free 2
      simp only at z0 z1 z2 y0 y1 y2
      have H0 := Lib.hid hz0
      have HB := Lib.hid hbel
      clear hz0 hz1 hbel
      go_wp2
      refine bodyPost_ret (results_zone (((H0.out.set0 s).set1 lo).set2 hi) rfl rfl) rfl ?_
      exact ⟨by rw [Hz.out], ((HB.out.setCell (by simp) _).setCell (by simp) _).setCell (by simp) _⟩
end Go.Proofs.Ytgjopffdgdimlaa

/- ints.zones, and what its closure yields: each granule with its zone. -/
namespace Go.Proofs.Ytgjopffdgdimlaa
open Go.RowKit Go.Shelf
set_option maxRecDepth 100000

theorem sizeC (W : World) : (sizeOf 46).run Try.prog W = .ok 2 W := by
  obtain ⟨i0, hi0, hz0, hz1, hz2⟩ := info_parts cell_info
  simp [sizeOf, typeInfo, hi0, hz1]
theorem elemCt : Try.prog.elem 23 = 46 := by kernel_rfl
/-- where a piece of a column that begins at lo lies -/
def cutC (A : Option Addr) (cap lo : Nat) : Option Addr := if cap = lo then A else A.map (·.add (lo * 2))
theorem run_cutC_lh (A : Option Addr) (n cap lo hi : Nat) (h1 : lo ≤ hi) (h2 : hi ≤ cap) (W : World) :
    (Instr.slice 23 (.slice A n cap) (some (.int .i64 (lo : Int))) (some (.int .i64 (hi : Int))) none).run Try.prog W = .ok (.slice (cutC A cap lo) (hi - lo) (cap - lo)) W := by
  rw [run_slice_lh (P := Try.prog) (w := W) (kl := .i64) (kh := .i64) (l := (lo : Int)) (h := (hi : Int)) (h0 := by omega) (h1 := by omega) (h2 := by omega) (ht := by rw [elemCt]; exact Try.underlying23)]
  rw [elemCt, sizeC]
  simp [Result.andThen, sliced, cutC]
/-- a granule's cells, cut out -/
theorem gran_cut (A : Option Addr) (n cap B j hi : Nat) (l : List (Bool × Int)) (hl : l.length = n) (hcap : n ≤ cap) (hj : j * 16 < n) (hhi : hi = min (j * 16 + 16) n) :
    ∃ A' c', (Ict.gran l j).length = hi - j * 16 ∧ (∀ W, (Instr.slice 23 (.slice A n cap) (some (.int .i64 ((j : Int) * 16))) (some (.int .i64 (hi : Int))) none).run Try.prog W = .ok (.slice A' (hi - j * 16) c') W) ∧ ∀ W, Cols W B A l → Cols W B A' (Ict.gran l j) := by
  refine ⟨cutC A cap (j * 16), cap - j * 16, ?_, fun W => ?_, fun W h => ?_⟩
  · unfold Ict.gran
    rw [List.length_take, List.length_drop, hl, Nat.mul_comm 16 j]
    omega
  · have := run_cutC_lh A n cap (j * 16) hi (by omega) (by omega) W
    push_cast at this
    exact this
  · have h1 := h.drop (k := j * 16) (cap := cap) (by omega) (by omega)
    unfold Ict.gran
    rw [Nat.mul_comm 16 j]
    exact MRow.take h1 16

theorem zones_iter (A : Option Addr) (n cap : Nat) (w : World) :
    Calls Try.prog 43 #[.slice A n cap] w fun e w' => e = .returned (.func (.func 67) #[] #[.pointer (some ⟨w.heap.size, 0, none⟩)]) ∧ w.alloc (.cells #[.slice A n cap] 23) = w' := by
  have hmf : ∀ (fn : Fn) (first cap : Array Value) (w : World), (Instr.makeFunc fn first cap).run Try.prog w = .ok (.func fn first cap) w := fun _ _ _ _ => rfl
  go_enter Try.func43, Try.ntmps43
  go_wp2
  go_ret
  exact ⟨rfl, rfl⟩

/-- what the closure reads: the column's variable, the column -/
def SeesC (A : Option Addr) (n cap b B : Nat) (l : List (Bool × Int)) (W : World) : Prop := W.cell? ⟨b, 0, none⟩ = some (.slice A n cap) ∧ Cols W B A l ∧ B ≤ W.heap.size
/-- what it yields -/
def Ict.pairs (l : List (Bool × Int)) : List (Value × Value) := (List.range (Ict.count l)).map fun (g : Nat) => (Value.int .i64 (g : Int), zval (Ict.zoneAt l g))
theorem Ict.pairs_length (l : List (Bool × Int)) : (Ict.pairs l).length = Ict.count l := by simp [Ict.pairs]
theorem Ict.pairs_get {l : List (Bool × Int)} {k : Nat} (h : k < (Ict.pairs l).length) : (Ict.pairs l)[k] = (.int .i64 (k : Int), zval (Ict.zoneAt l k)) := by simp [Ict.pairs]

attribute [local go_sem] Oper.semAt_some
set_option maxHeartbeats 4000000 in
theorem yields_zones (m : Nat) (A : Option Addr) (n cap b B : Nat) (l : List (Bool × Int)) (hl : l.length = n) (hcap : n ≤ cap) :
    Yields2 m 67 #[.pointer (some ⟨b, 0, none⟩)] (Ict.pairs l) (SeesC A n cap b B l) := by
  intro y J Jx W hS hB hY h0
  have HS := Lib.hid hS; clear hS
  have HJ := Lib.hid hB; clear hB
  have hYP : ∀ q W1, q < Ict.count l → J q W1 → YieldAt Fence.wide (m - 1) Try.prog y #[.int .i64 (q : Int), zval (Ict.zoneAt l q)] W1 fun e W' => (e = .returned (.bool true) ∧ J (q + 1) W') ∨ (e = .returned (.bool false) ∧ Jx W') := fun q W1 h hJ => by
    have hq : q < (Ict.pairs l).length := by rw [Ict.pairs_length]; exact h
    have := hY q W1 hq hJ
    rw [Ict.pairs_get hq] at this
    exact this
  have HY := Lib.hid hYP; clear hYP hY
  rw [Ict.pairs_length]
  obtain ⟨C, hC⟩ : ∃ C, C = Ict.count l := ⟨_, rfl⟩
  rw [← hC] at HY ⊢
  obtain ⟨hcell, hrow, hBW⟩ := HS.out 0 W h0
  have HF := Lib.hid (formed_any A n cap B l W hl hrow hBW)
  have Hl := Lib.hid hl
  have HC0 := Lib.hid (show Ict.formed l = false → C = 0 from fun h => by rw [hC]; unfold Ict.count; rw [h]; rfl)
  have HC1 := Lib.hid (show Ict.formed l = true → C = (n + 15) / 16 ∧ n ≤ 4096 from fun h => by
    refine ⟨by rw [hC]; unfold Ict.count; rw [h, if_pos rfl, hl], ?_⟩
    simp only [Ict.formed, Bool.and_eq_true, decide_eq_true_eq, hl] at h
    exact h.1)
  obtain ⟨F, hF⟩ : ∃ F, F = Ict.formed l := ⟨_, rfl⟩
  rw [← hF] at HF HC0 HC1
  clear hrow hBW hl hC hF
  refine callsIn_of_wp Try.func67 rfl trivial ?_ rfl
  simp only [Try.ntmps67, List.size_toArray, List.length_cons, List.length_nil, Nat.reduceAdd, Nat.reduceSub, Array.replicate_succ, Array.replicate_zero, List.push_toArray, List.append_toArray, List.nil_append, List.cons_append]
  gi_wp2_with fail
  refine ⟨trivial, (fun h => by cases h), (callsIn_wide.2 HF.out).mono ?_⟩
  rintro e w1 ⟨rfl, hbel1⟩
  have hJ1 := HJ.out 0 W w1 h0 hbel1
  clear h0 hbel1 hcell HF
  have hcell1 := (HS.out 0 w1 hJ1).1
  cases F
  · obtain rfl := HC0.out rfl
    gi_wp2
    refine bodyPost_ret (results_none rfl _ _ _) rfl ?_
    exact ⟨⟨_, rfl⟩, .inl hJ1⟩
  · obtain ⟨hC, hn⟩ := HC1.out rfl
    have HCC := Lib.hid hC
    clear HC0 HC1 hC
    gi_wp2
    gi_loopw [3] (fun i wr => ∃ (j : Nat), i = .int .i64 (j : Int) ∧ j ≤ C ∧ J j wr) (fun i _ => C - (intOf i).toNat)
    case atStart => exact ⟨0, rfl, by omega, hJ1⟩
    case round =>
      clear hJ1 hcell1
      obtain ⟨j, rfl, hj, hJ⟩ := hrel
      obtain ⟨hcell, hrow, hBW⟩ := HS.out j wr hJ
      by_cases hlt : j * 16 < n
      · have hlt' : (j : Int) * 16 < (n : Int) := by omega
        have hjc : j < C := by have := HCC.out; omega
        have hhi : ∃ hi : Nat, hi = min (j * 16 + 16) n := ⟨_, rfl⟩
        obtain ⟨hi, hhi⟩ := hhi
        obtain ⟨A', c', hql, hcut, hcol⟩ := gran_cut A n cap B j hi l Hl.out hcap hlt hhi
        have HZ := Lib.hid (zoneOf_any A' (hi - j * 16) c' B (Ict.gran l j) wr hql (by omega) (hcol wr hrow) hBW)
        have Hzz := Lib.hid (show Ict.zone (Ict.gran l j) = Ict.zoneAt l j from rfl)
        obtain ⟨q, hq⟩ : ∃ q, q = hi - j * 16 := ⟨_, rfl⟩
        rw [← hq] at HZ hcut
        generalize Ict.zone (Ict.gran l j) = z at *
        clear hrow hql hcol hBW hq
        by_cases hc : (j : Int) * 16 + 16 ≤ (n : Int)
        · obtain rfl : hi = j * 16 + 16 := by omega
          have hc' : ¬ (n : Int) < (j : Int) * 16 + 16 := by omega
          rw [show ((j * 16 + 16 : Nat) : Int) = (j : Int) * 16 + 16 from by omega] at hcut
          clear hhi
          gi_wp2_with fail
          refine ⟨trivial, (fun h => by cases h), (callsIn_wide.2 HZ.out).mono ?_⟩
          rintro e w2 ⟨rfl, hbel2⟩
          have hJ2 := HJ.out j wr w2 hJ hbel2
          obtain ⟨fn, tmps, assign, body, hy, hRR⟩ := HY.out j w2 hjc hJ2
          have HRR := Lib.hid hRR
          rw [← Hzz.out] at hy
          clear hRR HZ hJ hbel2 hcell
          gi_wp2
          refine ⟨(fun h => by cases h), HRR.out.mono ?_⟩
          rintro e W3 (⟨rfl, hJ3⟩ | ⟨rfl, hJx3⟩)
          · gi_wp2
            go_roundw
            case rel => exact ⟨j + 1, by go_num, hjc, hJ3⟩
            case measure => simp [intOf]; omega
          · gi_wp2
            refine bodyPost_ret (results_none rfl _ _ _) rfl ?_
            exact ⟨⟨_, rfl⟩, .inr hJx3⟩
        · have hc' : (n : Int) < (j : Int) * 16 + 16 := by omega
          obtain rfl : hi = n := by omega
          clear hhi
          gi_wp2_with fail
          refine ⟨trivial, (fun h => by cases h), (callsIn_wide.2 HZ.out).mono ?_⟩
          rintro e w2 ⟨rfl, hbel2⟩
          have hJ2 := HJ.out j wr w2 hJ hbel2
          obtain ⟨fn, tmps, assign, body, hy, hRR⟩ := HY.out j w2 hjc hJ2
          have HRR := Lib.hid hRR
          rw [← Hzz.out] at hy
          clear hRR HZ hJ hbel2 hcell
          gi_wp2
          refine ⟨(fun h => by cases h), HRR.out.mono ?_⟩
          rintro e W3 (⟨rfl, hJ3⟩ | ⟨rfl, hJx3⟩)
          · gi_wp2
            go_roundw
            case rel => exact ⟨j + 1, by go_num, hjc, hJ3⟩
            case measure => simp [intOf]; omega
          · gi_wp2
            refine bodyPost_ret (results_none rfl _ _ _) rfl ?_
            exact ⟨⟨_, rfl⟩, .inr hJx3⟩
      · have hlt' : ¬ (j : Int) * 16 < (n : Int) := by omega
        have hjC : j = C := by have := HCC.out; omega
        have hjb : j ≤ 300 := by have := HCC.out; omega
        rw [hjC] at hJ
        have HJC := Lib.hid hJ
        clear hjC
        gi_wp2
        go_end0
        exact ⟨⟨_, rfl⟩, .inl HJC.out⟩
end Go.Proofs.Ytgjopffdgdimlaa

/- ints.Zones. -/
namespace Go.Proofs.Ytgjopffdgdimlaa
open Go.RowKit Go.Shelf
set_option maxRecDepth 100000
attribute [local go_sem] Oper.semAt_some

theorem Ict.zones_length (l : List (Bool × Int)) : (Ict.zones l).length = Ict.count l := by simp [Ict.zones]
theorem Ict.zones_take {l : List (Bool × Int)} {q : Nat} (h : q < Ict.count l) : (Ict.zones l).take (q + 1) = (Ict.zones l).take q ++ [Ict.zoneAt l q] := by
  rw [List.take_succ_eq_append_getElem (by rw [Ict.zones_length]; exact h)]
  simp [Ict.zones]
/-- a slice's variable in a block, and the slice, behind q rounds -/
def ZInv (W1 : World) (bg : Nat) (l : List (Bool × Int)) (q : Nat) (W : World) : Prop :=
  ∃ (A2 : Option Addr) (c2 : Nat), W.heap[bg]? = some (.cells #[.slice A2 q c2] 38) ∧ ZOwn W W1.heap.size A2 q c2 ((Ict.zones l).take q) ∧ W1.grownBy W (some bg)
theorem zInv_own (W1 : World) (bg : Nat) (l : List (Bool × Int)) (hbg : bg < W1.heap.size) : OwnFrom W1.heap.size (ZInv W1 bg l) := by
  rintro q W W' row ⟨A2, c2, h1, h2, h3⟩ hg hr
  refine ⟨A2, c2, ?_, mown_kept h2 hg (fun r e => (hr r e).2), h3.andThen hg (fun j e => .inl (hr j e).1)⟩
  refine (hg.block bg (Array.getElem?_eq_some_iff.1 h1).1 ?_).trans h1
  intro e
  have := (hr bg e.symm).1
  omega
theorem zbox_own {W W' : World} {g : Nat} {z : Bool × Int × Int} {row : Option Nat} (h : ZBox W g z) (hg : W.grownBy W' row) (hr : ∀ r, row = some r → ∃ o : Obj, W.heap[r]? = some o ∧ o.isCells = false) : ZBox W' g z := by
  refine h.kept hg ?_
  intro e
  obtain ⟨o, ho, hc⟩ := hr g e.symm
  have h' : W.heap[g]? = some (.cells #[.bool z.1, .int .i64 z.2.1, .int .i64 z.2.2] 41) := h
  rw [h'] at ho
  cases ho
  cases hc
theorem zone_push {w2 W w8 : World} {bg c5 q c2 : Nat} {A2 A5 : Option Addr} {l : List (Bool × Int)} {tmp : Obj} (hbg : bg < w2.heap.size) (h1 : W.heap[bg]? = some (.cells #[.slice A2 q c2] 38))
    (h2 : ZOwn W w2.heap.size A2 q c2 ((Ict.zones l).take q)) (h3 : w2.grownBy W (some bg)) (hq : q < Ict.count l)
    (ho8 : ZOwn w8 w2.heap.size A5 (q + 1) c5 ((Ict.zones l).take q ++ [Ict.zoneAt l q])) (hg8 : (W.alloc tmp).grownBy w8 (blk A2)) :
    KeepsOthers W (w8.setCell ⟨bg, 0, none⟩ (.slice A5 (q + 1) c5)) ∧ ZInv w2 bg l (q + 1) (w8.setCell ⟨bg, 0, none⟩ (.slice A5 (q + 1) c5)) := by
  have h2' := h2.alloc tmp
  have hbx : Go.Boxed W bg 38 (.slice A2 q c2) := h1
  have hx8 : Go.Boxed w8 bg 38 (.slice A2 q c2) := (hbx.alloc tmp).kept hg8 (fun e => by have := (h2'.lt e.symm).1; omega)
  refine ⟨((KeepsOthers.below ((Below.refl _ W).alloc (Nat.le_refl _) tmp)).trans (KeepsOthers.of_grownBy hg8 (fun j o hj hjo => mown_cells h2' hj hjo))).trans (KeepsOthers.setCell w8 _ _), A5, c5, ?_, ?_, ?_⟩
  · exact hx8.set _
  · rw [Ict.zones_take hq]
    exact ho8.kept (Lib.grownBy_setCell w8 bg 0 _) (.inr fun e => by have := (ho8.lt e).1; omega)
  · exact ((h3.andThen (World.grownBy_alloc W tmp none) (fun j e => by cases e)).andThen hg8 (fun j e => .inl (h2'.lt e).1)).andThen (Lib.grownBy_setCell w8 bg 0 _) (fun j e => .inr e)
theorem sees_grownC {W1 W : World} {A : Option Addr} {n c b bg B : Nat} {l : List (Bool × Int)} (hg : W1.grownBy W (some bg)) (hv : W1.heap[b]? = some (.cells #[.slice A n c] 23)) (hrow : Cols W1 B A l) (hB : B ≤ bg) (hBl : B ≤ W1.heap.size) (hb : b ≠ bg) : SeesC A n c b B l W := by
  have hbl : b < W1.heap.size := (Array.getElem?_eq_some_iff.1 hv).1
  refine ⟨?_, ?_, Nat.le_trans hBl hg.size⟩
  · have h2 := (hg.block b hbl (by intro e; injection e with e; exact hb e)).trans hv
    have := Go.Joins.cell_of_block h2 0
    simpa using this
  · exact hrow.keep (fun p hp => by
      have hlt : p.block < W1.heap.size := Nat.lt_of_lt_of_le hp hBl
      have := hg.block p.block hlt (by intro e; injection e with e; omega)
      simp only [World.cell?, this])

set_option maxHeartbeats 4000000 in
theorem icZones_any (A : Option Addr) (n c B : Nat) (l : List (Bool × Int)) (w : World) (hl : l.length = n) (hcap : n ≤ c) (hb : Cols w B A l) (hB : B ≤ w.heap.size) :
    Calls Try.prog 20 #[.slice A n c] w fun e w' => ∃ A' c', e = .returned (.slice A' (Ict.zones l).length c') ∧ ZOwn w' w.heap.size A' (Ict.zones l).length c' (Ict.zones l) ∧ Below w.heap.size w w' := by
  simp only [Ict.zones_length]
  refine (callsIn_wide (n := 3)).1 ?_
  refine callsIn_of_wp_marks Try.func20 rfl trivial ?_ rfl
  simp only [Try.ntmps20, List.size_toArray, List.length_cons, List.length_nil, Nat.reduceAdd, Nat.reduceSub, Array.replicate_succ, Array.replicate_zero, List.push_toArray, List.append_toArray, List.nil_append, List.cons_append]
  have hbel : Below w.heap.size w (w.alloc (.cells #[.slice none 0 0] 38)) := (Below.refl _ _).alloc (Nat.le_refl _) _
  have hv : (w.alloc (.cells #[.slice none 0 0] 38)).heap[w.heap.size]? = some (.cells #[.slice none 0 0] 38) := World.alloc_heap_new _ _
  have hsz : (w.alloc (.cells #[.slice none 0 0] 38)).heap.size = w.heap.size + 1 := by simp
  have hb := (hb.wide hB).below hbel
  have HZ := Lib.hid (zones_iter A n c (w.alloc (.cells #[.slice none 0 0] 38)))
  gi_wp2_with fail
  refine ⟨trivial, (callsIn_wide.2 HZ.out).mono ?_⟩
  rintro e w2 ⟨rfl, rfl⟩
  have hbel2 := hbel.alloc hbel.size (.cells #[.slice A n c] 23)
  have hx2 := World.alloc_heap_new (w.alloc (.cells #[.slice none 0 0] 38)) (.cells #[.slice A n c] 23)
  have hv2 : ((w.alloc (.cells #[.slice none 0 0] 38)).alloc (.cells #[.slice A n c] 23)).heap[w.heap.size]? = some (.cells #[.slice none 0 0] 38) := (Below.heap_alloc _ _ _ (by omega)).trans hv
  have hb2 := hb.below ((Below.refl w.heap.size (w.alloc (.cells #[.slice none 0 0] 38))).alloc (by omega) (.cells #[.slice A n c] 23))
  have hsz2 : ((w.alloc (.cells #[.slice none 0 0] 38)).alloc (.cells #[.slice A n c] 23)).heap.size = w.heap.size + 1 + 1 := by simp
  rw [hsz] at hx2 ⊢
  clear HZ hbel hv hb hsz
  generalize (w.alloc (.cells #[.slice none 0 0] 38)).alloc (.cells #[.slice A n c] 23) = w2 at *
  have hbgl : w.heap.size < w2.heap.size := by omega
  have hyl := yields_zones 2 A n c (w.heap.size + 1) w.heap.size l hl hcap
  have hinv0 : ZInv w2 w.heap.size l 0 w2 := ⟨none, 0, hv2, MOwn.nil _ _ _ _ _, World.grownBy.refl _ _⟩
  have hsees : ∀ q W, ZInv w2 w.heap.size l q W → SeesC A n c (w.heap.size + 1) w.heap.size l W := fun q W ⟨_, _, _, _, h3⟩ => sees_grownC h3 hx2 hb2 (Nat.le_refl _) (by omega) (by omega)
  obtain ⟨bg, hbg⟩ : ∃ bg, bg = w.heap.size := ⟨_, rfl⟩
  gi_wp2_with fail
  refine wpIn_seq2 (gf := 67) (lb := #[.pointer (some ⟨w.heap.size + 1, 0, none⟩)]) (id := 0) (vs := Ict.pairs l) (S := SeesC A n c (w.heap.size + 1) w.heap.size l) rfl (enters_of Try.func67 (by kernel_rfl) rfl)
    hyl rfl (ZInv w2 w.heap.size l) (fun _ => False) (zInv_own _ _ _ hbgl) (fun _ _ _ _ h => h.elim) hsees hinv0
    (fun q a1 W => ZInv w2 w.heap.size l q W ∧ ∃ g, ZBox W g (Ict.zoneAt l q) ∧ w2.heap.size ≤ g ∧ a1 = { tmps := #[.slice A n c, undef, .slice none 0 0, .pointer (some ⟨w.heap.size, 0, none⟩), undef, .pointer (some ⟨g, 0, none⟩), .slice A n c, .func (.func 67) #[] #[.pointer (some ⟨w.heap.size + 1, 0, none⟩)], .int .i64 (q : Int), zval (Ict.zoneAt l q), undef, undef, undef, undef, undef], defers := [] })
    (fun a1 k W W' row h hg hr => by
      obtain ⟨h1, g, h2, h3, h4⟩ := h
      exact ⟨zInv_own _ _ _ hbgl k W W' row h1 hg hr, g, zbox_own h2 hg (fun r e => (hr r e).2), h3, h4⟩) ?assign ?body ?done ?stop
  case assign =>
    intro l' q W hq hI K hK
    have hq' : q < Ict.count l := by rw [← Ict.pairs_length]; exact hq
    rw [Ict.pairs_get hq]
    have hK' := hK
    have hszW := (hI : ZInv w2 w.heap.size l q W).choose_spec.choose_spec.2.2.size
    have hbW : Below W.heap.size W (W.alloc (.cells #[.bool (Ict.zoneAt l q).1, .int .i64 (Ict.zoneAt l q).2.1, .int .i64 (Ict.zoneAt l q).2.2] 41)) := (Below.refl _ _).alloc (Nat.le_refl _) _
    have hI' := ownFrom_below (zInv_own w2 w.heap.size l hbgl) hI hbW
    have hZ' := ZBox.new W (Ict.zoneAt l q)
    have HK := Lib.hid (hK _ _ (KeepsOthers.below hbW) ⟨hI', W.heap.size, hZ', hszW, rfl⟩)
    clear hK hK' hI hI' hZ' hbW
    unfold zval at HK ⊢
    generalize Ict.zoneAt l q = z at *
    obtain ⟨s, lo, hi⟩ := z
    gi_wp2
    exact HK.out
  case stop =>
    intro D W hD h
    exact h.elim
  case done =>
    rintro D W hD ⟨A2, c2, h1, h2, h3⟩ hK
    rw [Ict.pairs_length] at h1 h2
    rw [List.take_of_length_le (by rw [Ict.zones_length]; exact Nat.le_refl _)] at h2
    have c1 := Go.Joins.cell_of_block h1 0
    simp only [List.getElem?_toArray, List.getElem?_cons_zero] at c1
    gi_wp2
    refine ⟨by simp, .inl ⟨_, _, rfl, run_takeDeferred hK, ?_⟩⟩
    refine ⟨.slice A2 (Ict.count l) c2, ?_, A2, c2, rfl, ?_, ?_⟩
    · simp [results, Try.f20, go_sem]
    · exact (mown_kept h2 (grownBy_putObj' W D (.deferred none)) (fun r e => by cases e; exact ⟨_, hK, rfl⟩)).low (by omega)
    · exact (hbel2.grown h3 (by omega) (fun k e => by cases e; omega)).grown (grownBy_putObj' W D (.deferred none)) (by have := h3.size; omega) (fun k e => by cases e; omega)
  case body =>
    rintro l' q a1 W hq ⟨⟨A2, c2, h1, h2, h3⟩, g, hz, hgl, rfl⟩
    have hq' : q < Ict.count l := by rw [← Ict.pairs_length]; exact hq
    have hq256 := Ict.count_le l
    have hg3 := h3.size
    have hgW := hz.lt
    obtain ⟨z0, z1, z2⟩ := hz.cell
    have c1 := Go.Joins.cell_of_block h1 0
    simp only [List.getElem?_toArray, List.getElem?_cons_zero] at c1
    have hone := (MOwn.lit (f := zoneV) (m := 3) (e := 41) (fun _ => rfl) W W.heap.size [Ict.zoneAt l q] (Nat.le_refl _) (by simp [maxLen])).row (fun _ => rfl)
    rw [mcat_one] at hone
    have h2' := h2.alloc (.cells (zoneV (Ict.zoneAt l q)).toArray 41)
    have hpush := fun A5 c5 w8 => zone_push (w8 := w8) (c5 := c5) (A5 := A5) (tmp := .cells (zoneV (Ict.zoneAt l q)).toArray 41) hbgl h1 h2 h3 hq'
    have HP := Lib.hid hpush
    have h1' := h1
    unfold zval
    unfold zoneV at hone h2' HP
    generalize hzz : Ict.zoneAt l q = z at *
    obtain ⟨s, lo, hi⟩ := z
    simp only at z0 z1 z2 hone h2' HP ⊢
    clear hpush hz h2 hzz hq
    gi_wp2_with (gi_at_builtin; refine wpListIn_append_mrow elemZ rfl (.tmp 10) (.tmp 12) rfl w2.heap.size A2 q c2 _ rfl h2' _ _ 1 1 [(s, lo, hi)] rfl rfl hone (by omega) (by simp only [maxLen]; omega) (by simp; omega) ?_; intro A5 c5 w8 ho8 hg8 hat8; have hx8 : Go.Boxed w8 w.heap.size 38 (.slice A2 q c2) := ((show Go.Boxed W w.heap.size 38 (.slice A2 q c2) from h1').alloc _).kept hg8 (fun e => by have := (h2'.lt e.symm).1; omega); have hc8 := hx8.cell; have hz8 := hx8.frozen)
    exact HP.out A5 c5 w8 ho8 hg8
end Go.Proofs.Ytgjopffdgdimlaa

/- ints.granulesWhere with each of its closures; ints.Below, ints.Above. -/
namespace Go.Proofs.Ytgjopffdgdimlaa
open Go.RowKit Go.Shelf
set_option maxRecDepth 100000
attribute [local go_sem] Oper.semAt_some

/-- a slice's variable in a block, and the slice, behind q rounds -/
def WInv (W1 : World) (bg : Nat) (l : List (Bool × Int)) (p : Bool × Int × Int → Bool) (q : Nat) (W : World) : Prop :=
  ∃ (A2 : Option Addr) (c2 : Nat), W.heap[bg]? = some (.cells #[.slice A2 (Ict.where l p q).length c2] 43) ∧ IOwn W W1.heap.size A2 (Ict.where l p q).length c2 (Ict.where l p q) ∧ W1.grownBy W (some bg)
theorem wInv_own (W1 : World) (bg : Nat) (l : List (Bool × Int)) (p : Bool × Int × Int → Bool) (hbg : bg < W1.heap.size) : OwnFrom W1.heap.size (WInv W1 bg l p) := by
  rintro q W W' row ⟨A2, c2, h1, h2, h3⟩ hg hr
  refine ⟨A2, c2, ?_, rown_kept h2 hg (fun r e => (hr r e).2), h3.andThen hg (fun j e => .inl (hr j e).1)⟩
  refine (hg.block bg (Array.getElem?_eq_some_iff.1 h1).1 ?_).trans h1
  intro e
  have := (hr bg e.symm).1
  omega
theorem where_push {w2 W w8 : World} {bg c5 q c2 m : Nat} {A2 A5 : Option Addr} {l : List (Bool × Int)} {p : Bool × Int × Int → Bool} {tmp : Obj} {X : List Int} (hbg : bg < w2.heap.size) (h1 : W.heap[bg]? = some (.cells #[.slice A2 m c2] 43))
    (h2 : IOwn W w2.heap.size A2 m c2 X) (h3 : w2.grownBy W (some bg)) (hq : Ict.where l p (q + 1) = X ++ [(q : Int)])
    (ho8 : IOwn w8 w2.heap.size A5 (m + 1) c5 (X ++ [(q : Int)])) (hg8 : (W.alloc tmp).grownBy w8 (blk A2)) :
    KeepsOthers W (w8.setCell ⟨bg, 0, none⟩ (.slice A5 (m + 1) c5)) ∧ WInv w2 bg l p (q + 1) (w8.setCell ⟨bg, 0, none⟩ (.slice A5 (m + 1) c5)) := by
  have h2' := h2.alloc tmp
  have hlen : (Ict.where l p (q + 1)).length = m + 1 := by rw [hq, List.length_append, h2.len]; rfl
  have hbx : Go.Boxed W bg 43 (.slice A2 m c2) := h1
  have hx8 : Go.Boxed w8 bg 43 (.slice A2 m c2) := (hbx.alloc tmp).kept hg8 (fun e => by have := (h2'.lt e.symm).1; omega)
  refine ⟨((KeepsOthers.below ((Below.refl _ W).alloc (Nat.le_refl _) tmp)).trans (KeepsOthers.of_grownBy hg8 (fun j o hj hjo => rown_cells h2' hj hjo))).trans (KeepsOthers.setCell w8 _ _), A5, c5, ?_, ?_, ?_⟩
  · rw [hlen]; exact hx8.set _
  · rw [hlen, hq]
    exact ho8.kept (Lib.grownBy_setCell w8 bg 0 _) (.inr fun e => by have := (ho8.lt e).1; omega)
  · exact ((h3.andThen (World.grownBy_alloc W tmp none) (fun j e => by cases e)).andThen hg8 (fun j e => .inl (h2'.lt e).1)).andThen (Lib.grownBy_setCell w8 bg 0 _) (fun j e => .inr e)
theorem WInv.same {w2 W : World} {bg q : Nat} {l : List (Bool × Int)} {p : Bool × Int × Int → Bool} (h : WInv w2 bg l p q W) (hp : ((Ict.zoneAt l q).1 && p (Ict.zoneAt l q)) = false) : WInv w2 bg l p (q + 1) W := by
  have e : Ict.where l p (q + 1) = Ict.where l p q := by rw [Ict.where_succ, hp]; simp
  unfold WInv
  rw [e]
  exact h

theorem below_closure (z : Bool × Int × Int) (N : Int) (nb : Nat) (w : World) (hc : w.cell? ⟨nb, 0, none⟩ = some (.int .i64 N)) :
    Calls Try.prog 45 #[zval z, .pointer (some ⟨nb, 0, none⟩)] w fun e w' => e = .returned (.bool (Ict.pbelow N z)) ∧ Below w.heap.size w w' := by
  obtain ⟨s, lo, hi⟩ := z
  have hB := Lib.hid ((Below.refl w.heap.size w).alloc (Nat.le_refl _) (.cells #[.bool s, .int .i64 lo, .int .i64 hi] 41))
  have hc' : (w.alloc (.cells #[.bool s, .int .i64 lo, .int .i64 hi] 41)).cell? ⟨nb, 0, none⟩ = some (.int .i64 N) := Lib.cell?_alloc_some _ hc
  unfold zval Ict.pbelow
  simp only
  go_enter Try.func45, Try.ntmps45
  go_wp2
  go_ret
  exact ⟨rfl, hB.out⟩

set_option maxHeartbeats 4000000 in
theorem where_below (A : Option Addr) (n c B : Nat) (l : List (Bool × Int)) (N : Int) (nb : Nat) (w : World) (hl : l.length = n) (hcap : n ≤ c) (hb : Cols w B A l) (hB : B ≤ w.heap.size) (hnb : w.heap[nb]? = some (.cells #[.int .i64 N] 3)) :
    Calls Try.prog 44 #[.slice A n c, .func (.func 45) #[] #[.pointer (some ⟨nb, 0, none⟩)]] w fun e w' => ∃ A' c', e = .returned (.slice A' (Ict.below l N).length c') ∧ IOwn w' w.heap.size A' (Ict.below l N).length c' (Ict.below l N) ∧ Below w.heap.size w w' := by
  unfold Ict.below
  obtain ⟨p, hp⟩ : ∃ p, p = Ict.pbelow N := ⟨_, rfl⟩
  have HC := Lib.hid (fun z W hW => below_closure z N nb W hW)
  rw [← hp] at HC ⊢
  clear hp
  refine (callsIn_wide (n := 3)).1 ?_
  refine callsIn_of_wp_marks Try.func44 rfl trivial ?_ rfl
  simp only [Try.ntmps44, List.size_toArray, List.length_cons, List.length_nil, Nat.reduceAdd, Nat.reduceSub, Array.replicate_succ, Array.replicate_zero, List.push_toArray, List.append_toArray, List.nil_append, List.cons_append]
  have hnl : nb < w.heap.size := (Array.getElem?_eq_some_iff.1 hnb).1
  have hbelA : Below w.heap.size w (w.alloc (.cells #[.func (.func 45) #[] #[.pointer (some ⟨nb, 0, none⟩)]] 75)) := (Below.refl _ _).alloc (Nat.le_refl _) _
  have hvA : (w.alloc (.cells #[.func (.func 45) #[] #[.pointer (some ⟨nb, 0, none⟩)]] 75)).heap[w.heap.size]? = some (.cells #[.func (.func 45) #[] #[.pointer (some ⟨nb, 0, none⟩)]] 75) := World.alloc_heap_new _ _
  have hszA : (w.alloc (.cells #[.func (.func 45) #[] #[.pointer (some ⟨nb, 0, none⟩)]] 75)).heap.size = w.heap.size + 1 := by simp
  obtain ⟨wA, hwA⟩ : ∃ wA, wA = w.alloc (.cells #[.func (.func 45) #[] #[.pointer (some ⟨nb, 0, none⟩)]] 75) := ⟨_, rfl⟩
  rw [← hwA] at hbelA hvA hszA
  have hbel : Below w.heap.size w (wA.alloc (.cells #[.slice none 0 0] 43)) := hbelA.alloc (by omega) _
  have hv : (wA.alloc (.cells #[.slice none 0 0] 43)).heap[w.heap.size + 1]? = some (.cells #[.slice none 0 0] 43) := by rw [← hszA]; exact World.alloc_heap_new _ _
  have hf : (wA.alloc (.cells #[.slice none 0 0] 43)).heap[w.heap.size]? = some (.cells #[.func (.func 45) #[] #[.pointer (some ⟨nb, 0, none⟩)]] 75) := (Below.heap_alloc _ _ _ (by omega)).trans hvA
  have hsz : (wA.alloc (.cells #[.slice none 0 0] 43)).heap.size = w.heap.size + 2 := by simp [hszA]
  have hb := (hb.wide hB).below hbel
  have hnbx := (hbel.block nb hnl).trans hnb
  have HZ := Lib.hid (zones_iter A n c (wA.alloc (.cells #[.slice none 0 0] 43)))
  rw [hwA] at HZ hbel hv hf hsz hb hnbx
  clear hwA hbelA hvA hszA
  clear wA
  gi_wp2_with fail
  refine ⟨trivial, (callsIn_wide.2 HZ.out).mono ?_⟩
  rintro e w2 ⟨rfl, rfl⟩
  generalize (w.alloc (.cells #[.func (.func 45) #[] #[.pointer (some ⟨nb, 0, none⟩)]] 75)).alloc (.cells #[.slice none 0 0] 43) = wB at *
  have hbel2 := hbel.alloc hbel.size (.cells #[.slice A n c] 23)
  have hx2 := World.alloc_heap_new wB (.cells #[.slice A n c] 23)
  have hv2 : (wB.alloc (.cells #[.slice A n c] 23)).heap[w.heap.size + 1]? = some (.cells #[.slice none 0 0] 43) := (Below.heap_alloc _ _ _ (by omega)).trans hv
  have hf2 : (wB.alloc (.cells #[.slice A n c] 23)).heap[w.heap.size]? = some (.cells #[.func (.func 45) #[] #[.pointer (some ⟨nb, 0, none⟩)]] 75) := (Below.heap_alloc _ _ _ (by omega)).trans hf
  have hn2 : (wB.alloc (.cells #[.slice A n c] 23)).heap[nb]? = some (.cells #[.int .i64 N] 3) := (Below.heap_alloc _ _ _ (by omega)).trans hnbx
  have hb2 := hb.below ((Below.refl w.heap.size wB).alloc (by omega) (.cells #[.slice A n c] 23))
  have hsz2 : (wB.alloc (.cells #[.slice A n c] 23)).heap.size = w.heap.size + 3 := by simp [hsz]
  rw [hsz] at hx2 ⊢
  clear HZ hbel hv hb hsz hf hnbx hnb
  generalize wB.alloc (.cells #[.slice A n c] 23) = w2 at *
  have hbgl : w.heap.size + 1 < w2.heap.size := by omega
  have hyl := yields_zones 2 A n c (w.heap.size + 2) w.heap.size l hl hcap
  have hinv0 : WInv w2 (w.heap.size + 1) l p 0 w2 := ⟨none, 0, by simpa [Ict.where] using hv2, ROwn.nil _ _ _ _, World.grownBy.refl _ _⟩
  have hsees : ∀ q W, WInv w2 (w.heap.size + 1) l p q W → SeesC A n c (w.heap.size + 2) w.heap.size l W := fun q W ⟨_, _, _, _, h3⟩ => sees_grownC h3 hx2 hb2 (by omega) (by omega) (by omega)
  gi_wp2_with fail
  refine wpIn_seq2 (gf := 67) (lb := #[.pointer (some ⟨w.heap.size + 2, 0, none⟩)]) (id := 0) (vs := Ict.pairs l) (S := SeesC A n c (w.heap.size + 2) w.heap.size l) rfl (enters_of Try.func67 (by kernel_rfl) rfl)
    hyl rfl (WInv w2 (w.heap.size + 1) l p) (fun _ => False) (wInv_own _ _ _ _ hbgl) (fun _ _ _ _ h => h.elim) hsees hinv0
    (fun q a1 W => WInv w2 (w.heap.size + 1) l p q W ∧ ∃ g, ZBox W g (Ict.zoneAt l q) ∧ w2.heap.size ≤ g ∧ a1 = { tmps := #[.slice A n c, .func (.func 45) #[] #[.pointer (some ⟨nb, 0, none⟩)], undef, .pointer (some ⟨w.heap.size, 0, none⟩), .slice none 0 0, .pointer (some ⟨w.heap.size + 1, 0, none⟩), .int .i64 (q : Int), .pointer (some ⟨g, 0, none⟩), .slice A n c, .func (.func 67) #[] #[.pointer (some ⟨w.heap.size + 2, 0, none⟩)], .int .i64 (q : Int), zval (Ict.zoneAt l q), undef, undef, undef, undef, undef, undef, undef, undef, undef, undef, undef, undef], defers := [] })
    (fun a1 k W W' row h hg hr => by
      obtain ⟨h1, g, h2, h3, h4⟩ := h
      exact ⟨wInv_own _ _ _ _ hbgl k W W' row h1 hg hr, g, zbox_own h2 hg (fun r e => (hr r e).2), h3, h4⟩) ?assign ?body ?done ?stop
  case assign =>
    intro l' q W hq hI K hK
    have hq' : q < Ict.count l := by rw [← Ict.pairs_length]; exact hq
    rw [Ict.pairs_get hq]
    have hszW := (hI : WInv w2 (w.heap.size + 1) l p q W).choose_spec.choose_spec.2.2.size
    have hbW : Below W.heap.size W (W.alloc (.cells #[.bool (Ict.zoneAt l q).1, .int .i64 (Ict.zoneAt l q).2.1, .int .i64 (Ict.zoneAt l q).2.2] 41)) := (Below.refl _ _).alloc (Nat.le_refl _) _
    have hI' := ownFrom_below (wInv_own w2 (w.heap.size + 1) l p hbgl) hI hbW
    have hZ' := ZBox.new W (Ict.zoneAt l q)
    have HK := Lib.hid (hK _ _ (KeepsOthers.below hbW) ⟨hI', W.heap.size, hZ', hszW, rfl⟩)
    clear hK hI hI' hZ' hbW
    unfold zval at HK ⊢
    generalize Ict.zoneAt l q = z at *
    obtain ⟨s, lo, hi⟩ := z
    gi_wp2
    exact HK.out
  case stop =>
    intro D W hD h
    exact h.elim
  case done =>
    rintro D W hD ⟨A2, c2, h1, h2, h3⟩ hK
    rw [Ict.pairs_length] at h1 h2
    have c1 := Go.Joins.cell_of_block h1 0
    simp only [List.getElem?_toArray, List.getElem?_cons_zero] at c1
    gi_wp2
    refine ⟨by simp, .inl ⟨_, _, rfl, run_takeDeferred hK, ?_⟩⟩
    refine ⟨.slice A2 (Ict.where l p (Ict.count l)).length c2, ?_, A2, c2, rfl, ?_, ?_⟩
    · simp [results, Try.f44, go_sem]
    · exact (rown_kept h2 (grownBy_putObj' W D (.deferred none)) (fun r e => by cases e; exact ⟨_, hK, rfl⟩)).low (by omega)
    · exact (hbel2.grown h3 (by omega) (fun k e => by cases e; omega)).grown (grownBy_putObj' W D (.deferred none)) (by have := h3.size; omega) (fun k e => by cases e; omega)
  case body =>
    rintro l' q a1 W hq ⟨hI, g, hz, hgl, rfl⟩
    have hI0 := hI
    obtain ⟨A2, c2, h1, h2, h3⟩ := hI
    have hq' : q < Ict.count l := by rw [← Ict.pairs_length]; exact hq
    have hq256 := Ict.count_le l
    have hg3 := h3.size
    have hgW := hz.lt
    obtain ⟨z0, z1, z2⟩ := hz.cell
    have cf := Go.Joins.cell_of_block ((h3.block w.heap.size (by omega) (by intro e; injection e with e; omega)).trans hf2) 0
    simp only [List.getElem?_toArray, List.getElem?_cons_zero] at cf
    have cn := Go.Joins.cell_of_block ((h3.block nb (by omega) (by intro e; injection e with e; omega)).trans hn2) 0
    simp only [List.getElem?_toArray, List.getElem?_cons_zero] at cn
    have HCz := Lib.hid (HC.out (Ict.zoneAt l q) W cn)
    have hsame := fun W' (h : WInv w2 (w.heap.size + 1) l p q W') => WInv.same (W := W') h
    have hnext := Ict.where_succ l p q
    have hwl := Ict.where_length l p q
    unfold zval at HCz ⊢
    generalize Ict.zoneAt l q = z at *
    obtain ⟨s, lo, hi⟩ := z
    simp only at z0 z1 z2 HCz hnext hsame ⊢
    clear hz hq HC
    cases s
    · have HS := Lib.hid (show KeepsOthers W W ∧ WInv w2 (w.heap.size + 1) l p (q + 1) W from ⟨KeepsOthers.below (Below.refl _ W), hsame W hI0 rfl⟩)
      clear hI0 hsame hnext HCz h1 h2 h3
      gi_wp2
      refine ⟨(fun f h => by cases h), ?_⟩
      gi_wp2
      exact HS.out
    · rw [Bool.true_and] at hnext hsame
      have HN := Lib.hid hnext
      have HSm := Lib.hid hsame
      have HI0 := Lib.hid hI0
      clear hnext hsame h1 h2 h3 hI0
      gi_wp2_with fail
      refine ⟨trivial, (CallsIn.inRound l' (callsIn_wide.2 HCz.out)).mono ?_⟩
      rintro e w5 ⟨rfl, hb5⟩
      have hI5 := ownFrom_below (wInv_own w2 (w.heap.size + 1) l p hbgl) HI0.out hb5
      have hko5 := KeepsOthers.below hb5
      clear HCz HI0 hb5 cf cn
      rcases hpz : p (true, lo, hi) with _ | _
      · have HS := Lib.hid (show KeepsOthers W w5 ∧ WInv w2 (w.heap.size + 1) l p (q + 1) w5 from ⟨hko5, HSm.out w5 hI5 hpz⟩)
        clear hI5 hko5 HSm HN hpz
        gi_wp2
        exact HS.out
      · have hnx : Ict.where l p (q + 1) = Ict.where l p q ++ [(q : Int)] := by rw [HN.out, hpz]; rfl
        obtain ⟨A3, c3, g1, g2, g3⟩ := hI5
        have hlen : (Ict.where l p q).length ≤ 256 := by omega
        have hs5 := g3.size
        have c5 := Go.Joins.cell_of_block g1 0
        simp only [List.getElem?_toArray, List.getElem?_cons_zero] at c5
        have hone := (iown_one w5 (q : Int)).row
        have g2' := g2.alloc (.cells #[.int .i64 (q : Int)] 3)
        have HP := Lib.hid (fun A5 c5 w8 ho8 hg8 => (where_push (l := l) (p := p) (q := q) (w8 := w8) (c5 := c5) (A5 := A5) (tmp := .cells #[.int .i64 (q : Int)] 3) hbgl g1 g2 g3 hnx ho8 hg8))
        have HKo := Lib.hid hko5
        have g1' : Go.Boxed w5 (w.heap.size + 1) 43 (.slice A3 (Ict.where l p q).length c3) := g1
        clear HN HSm hpz hnx hko5 g1 hwl g2
        generalize Ict.where l p q = X at *
        gi_wp2_with (gi_at_builtin; refine wpListIn_append_row elemI rfl (.tmp 19) (.tmp 21) rfl w2.heap.size A3 X.length c3 X rfl g2' _ _ 1 1 [_] rfl rfl hone (by omega) (by simp only [maxLen]; omega) (by simp; omega) ?_; intro A5 c5 w8 ho8 hg8 hat8; have hx8 : Go.Boxed w8 (w.heap.size + 1) 43 (.slice A3 X.length c3) := (g1'.alloc _).kept hg8 (fun e => by have := (g2'.lt e.symm).1; omega); have hc8 := hx8.cell; have hz8 := hx8.frozen)
        exact ⟨HKo.out.trans (HP.out A5 c5 w8 ho8 hg8).1, (HP.out A5 c5 w8 ho8 hg8).2⟩

theorem icBelow_any (A : Option Addr) (n c B : Nat) (l : List (Bool × Int)) (N : Int) (w : World) (hl : l.length = n) (hcap : n ≤ c) (hb : Cols w B A l) (hB : B ≤ w.heap.size) :
    Calls Try.prog 22 #[.slice A n c, .int .i64 N] w fun e w' => ∃ A' c', e = .returned (.slice A' (Ict.below l N).length c') ∧ IOwn w' w.heap.size A' (Ict.below l N).length c' (Ict.below l N) ∧ Below w.heap.size w w' := by
  have hmf : ∀ (fn : Fn) (first cap : Array Value) (w : World), (Instr.makeFunc fn first cap).run Try.prog w = .ok (.func fn first cap) w := fun _ _ _ _ => rfl
  have hbel : Below w.heap.size w (w.alloc (.cells #[.int .i64 N] 3)) := (Below.refl _ _).alloc (Nat.le_refl _) _
  have H := Lib.hid (where_below A n c w.heap.size l N w.heap.size (w.alloc (.cells #[.int .i64 N] 3)) hl hcap ((hb.wide hB).below hbel) (by simp) (World.alloc_heap_new _ _))
  clear hb hl
  go_enter Try.func22, Try.ntmps22
  go_wp2_with fail
  refine H.out.mono ?_
  rintro e w2 ⟨A', c', rfl, ho, hb2⟩
  go_wp2
  go_ret
  exact ⟨A', c', rfl, ho.low (by simp), hbel.trans (hb2.mono (by simp))⟩

theorem above_closure (z : Bool × Int × Int) (N : Int) (nb : Nat) (w : World) (hc : w.cell? ⟨nb, 0, none⟩ = some (.int .i64 N)) :
    Calls Try.prog 46 #[zval z, .pointer (some ⟨nb, 0, none⟩)] w fun e w' => e = .returned (.bool (Ict.pabove N z)) ∧ Below w.heap.size w w' := by
  obtain ⟨s, lo, hi⟩ := z
  have hB := Lib.hid ((Below.refl w.heap.size w).alloc (Nat.le_refl _) (.cells #[.bool s, .int .i64 lo, .int .i64 hi] 41))
  have hc' : (w.alloc (.cells #[.bool s, .int .i64 lo, .int .i64 hi] 41)).cell? ⟨nb, 0, none⟩ = some (.int .i64 N) := Lib.cell?_alloc_some _ hc
  unfold zval Ict.pabove
  simp only
  go_enter Try.func46, Try.ntmps46
  go_wp2
  go_ret
  exact ⟨rfl, hB.out⟩

set_option maxHeartbeats 4000000 in
theorem where_above (A : Option Addr) (n c B : Nat) (l : List (Bool × Int)) (N : Int) (nb : Nat) (w : World) (hl : l.length = n) (hcap : n ≤ c) (hb : Cols w B A l) (hB : B ≤ w.heap.size) (hnb : w.heap[nb]? = some (.cells #[.int .i64 N] 3)) :
    Calls Try.prog 44 #[.slice A n c, .func (.func 46) #[] #[.pointer (some ⟨nb, 0, none⟩)]] w fun e w' => ∃ A' c', e = .returned (.slice A' (Ict.above l N).length c') ∧ IOwn w' w.heap.size A' (Ict.above l N).length c' (Ict.above l N) ∧ Below w.heap.size w w' := by
  unfold Ict.above
  obtain ⟨p, hp⟩ : ∃ p, p = Ict.pabove N := ⟨_, rfl⟩
  have HC := Lib.hid (fun z W hW => above_closure z N nb W hW)
  rw [← hp] at HC ⊢
  clear hp
  refine (callsIn_wide (n := 3)).1 ?_
  refine callsIn_of_wp_marks Try.func44 rfl trivial ?_ rfl
  simp only [Try.ntmps44, List.size_toArray, List.length_cons, List.length_nil, Nat.reduceAdd, Nat.reduceSub, Array.replicate_succ, Array.replicate_zero, List.push_toArray, List.append_toArray, List.nil_append, List.cons_append]
  have hnl : nb < w.heap.size := (Array.getElem?_eq_some_iff.1 hnb).1
  have hbelA : Below w.heap.size w (w.alloc (.cells #[.func (.func 46) #[] #[.pointer (some ⟨nb, 0, none⟩)]] 75)) := (Below.refl _ _).alloc (Nat.le_refl _) _
  have hvA : (w.alloc (.cells #[.func (.func 46) #[] #[.pointer (some ⟨nb, 0, none⟩)]] 75)).heap[w.heap.size]? = some (.cells #[.func (.func 46) #[] #[.pointer (some ⟨nb, 0, none⟩)]] 75) := World.alloc_heap_new _ _
  have hszA : (w.alloc (.cells #[.func (.func 46) #[] #[.pointer (some ⟨nb, 0, none⟩)]] 75)).heap.size = w.heap.size + 1 := by simp
  obtain ⟨wA, hwA⟩ : ∃ wA, wA = w.alloc (.cells #[.func (.func 46) #[] #[.pointer (some ⟨nb, 0, none⟩)]] 75) := ⟨_, rfl⟩
  rw [← hwA] at hbelA hvA hszA
  have hbel : Below w.heap.size w (wA.alloc (.cells #[.slice none 0 0] 43)) := hbelA.alloc (by omega) _
  have hv : (wA.alloc (.cells #[.slice none 0 0] 43)).heap[w.heap.size + 1]? = some (.cells #[.slice none 0 0] 43) := by rw [← hszA]; exact World.alloc_heap_new _ _
  have hf : (wA.alloc (.cells #[.slice none 0 0] 43)).heap[w.heap.size]? = some (.cells #[.func (.func 46) #[] #[.pointer (some ⟨nb, 0, none⟩)]] 75) := (Below.heap_alloc _ _ _ (by omega)).trans hvA
  have hsz : (wA.alloc (.cells #[.slice none 0 0] 43)).heap.size = w.heap.size + 2 := by simp [hszA]
  have hb := (hb.wide hB).below hbel
  have hnbx := (hbel.block nb hnl).trans hnb
  have HZ := Lib.hid (zones_iter A n c (wA.alloc (.cells #[.slice none 0 0] 43)))
  rw [hwA] at HZ hbel hv hf hsz hb hnbx
  clear hwA hbelA hvA hszA
  clear wA
  gi_wp2_with fail
  refine ⟨trivial, (callsIn_wide.2 HZ.out).mono ?_⟩
  rintro e w2 ⟨rfl, rfl⟩
  generalize (w.alloc (.cells #[.func (.func 46) #[] #[.pointer (some ⟨nb, 0, none⟩)]] 75)).alloc (.cells #[.slice none 0 0] 43) = wB at *
  have hbel2 := hbel.alloc hbel.size (.cells #[.slice A n c] 23)
  have hx2 := World.alloc_heap_new wB (.cells #[.slice A n c] 23)
  have hv2 : (wB.alloc (.cells #[.slice A n c] 23)).heap[w.heap.size + 1]? = some (.cells #[.slice none 0 0] 43) := (Below.heap_alloc _ _ _ (by omega)).trans hv
  have hf2 : (wB.alloc (.cells #[.slice A n c] 23)).heap[w.heap.size]? = some (.cells #[.func (.func 46) #[] #[.pointer (some ⟨nb, 0, none⟩)]] 75) := (Below.heap_alloc _ _ _ (by omega)).trans hf
  have hn2 : (wB.alloc (.cells #[.slice A n c] 23)).heap[nb]? = some (.cells #[.int .i64 N] 3) := (Below.heap_alloc _ _ _ (by omega)).trans hnbx
  have hb2 := hb.below ((Below.refl w.heap.size wB).alloc (by omega) (.cells #[.slice A n c] 23))
  have hsz2 : (wB.alloc (.cells #[.slice A n c] 23)).heap.size = w.heap.size + 3 := by simp [hsz]
  rw [hsz] at hx2 ⊢
  clear HZ hbel hv hb hsz hf hnbx hnb
  generalize wB.alloc (.cells #[.slice A n c] 23) = w2 at *
  have hbgl : w.heap.size + 1 < w2.heap.size := by omega
  have hyl := yields_zones 2 A n c (w.heap.size + 2) w.heap.size l hl hcap
  have hinv0 : WInv w2 (w.heap.size + 1) l p 0 w2 := ⟨none, 0, by simpa [Ict.where] using hv2, ROwn.nil _ _ _ _, World.grownBy.refl _ _⟩
  have hsees : ∀ q W, WInv w2 (w.heap.size + 1) l p q W → SeesC A n c (w.heap.size + 2) w.heap.size l W := fun q W ⟨_, _, _, _, h3⟩ => sees_grownC h3 hx2 hb2 (by omega) (by omega) (by omega)
  gi_wp2_with fail
  refine wpIn_seq2 (gf := 67) (lb := #[.pointer (some ⟨w.heap.size + 2, 0, none⟩)]) (id := 0) (vs := Ict.pairs l) (S := SeesC A n c (w.heap.size + 2) w.heap.size l) rfl (enters_of Try.func67 (by kernel_rfl) rfl)
    hyl rfl (WInv w2 (w.heap.size + 1) l p) (fun _ => False) (wInv_own _ _ _ _ hbgl) (fun _ _ _ _ h => h.elim) hsees hinv0
    (fun q a1 W => WInv w2 (w.heap.size + 1) l p q W ∧ ∃ g, ZBox W g (Ict.zoneAt l q) ∧ w2.heap.size ≤ g ∧ a1 = { tmps := #[.slice A n c, .func (.func 46) #[] #[.pointer (some ⟨nb, 0, none⟩)], undef, .pointer (some ⟨w.heap.size, 0, none⟩), .slice none 0 0, .pointer (some ⟨w.heap.size + 1, 0, none⟩), .int .i64 (q : Int), .pointer (some ⟨g, 0, none⟩), .slice A n c, .func (.func 67) #[] #[.pointer (some ⟨w.heap.size + 2, 0, none⟩)], .int .i64 (q : Int), zval (Ict.zoneAt l q), undef, undef, undef, undef, undef, undef, undef, undef, undef, undef, undef, undef], defers := [] })
    (fun a1 k W W' row h hg hr => by
      obtain ⟨h1, g, h2, h3, h4⟩ := h
      exact ⟨wInv_own _ _ _ _ hbgl k W W' row h1 hg hr, g, zbox_own h2 hg (fun r e => (hr r e).2), h3, h4⟩) ?assign ?body ?done ?stop
  case assign =>
    intro l' q W hq hI K hK
    have hq' : q < Ict.count l := by rw [← Ict.pairs_length]; exact hq
    rw [Ict.pairs_get hq]
    have hszW := (hI : WInv w2 (w.heap.size + 1) l p q W).choose_spec.choose_spec.2.2.size
    have hbW : Below W.heap.size W (W.alloc (.cells #[.bool (Ict.zoneAt l q).1, .int .i64 (Ict.zoneAt l q).2.1, .int .i64 (Ict.zoneAt l q).2.2] 41)) := (Below.refl _ _).alloc (Nat.le_refl _) _
    have hI' := ownFrom_below (wInv_own w2 (w.heap.size + 1) l p hbgl) hI hbW
    have hZ' := ZBox.new W (Ict.zoneAt l q)
    have HK := Lib.hid (hK _ _ (KeepsOthers.below hbW) ⟨hI', W.heap.size, hZ', hszW, rfl⟩)
    clear hK hI hI' hZ' hbW
    unfold zval at HK ⊢
    generalize Ict.zoneAt l q = z at *
    obtain ⟨s, lo, hi⟩ := z
    gi_wp2
    exact HK.out
  case stop =>
    intro D W hD h
    exact h.elim
  case done =>
    rintro D W hD ⟨A2, c2, h1, h2, h3⟩ hK
    rw [Ict.pairs_length] at h1 h2
    have c1 := Go.Joins.cell_of_block h1 0
    simp only [List.getElem?_toArray, List.getElem?_cons_zero] at c1
    gi_wp2
    refine ⟨by simp, .inl ⟨_, _, rfl, run_takeDeferred hK, ?_⟩⟩
    refine ⟨.slice A2 (Ict.where l p (Ict.count l)).length c2, ?_, A2, c2, rfl, ?_, ?_⟩
    · simp [results, Try.f44, go_sem]
    · exact (rown_kept h2 (grownBy_putObj' W D (.deferred none)) (fun r e => by cases e; exact ⟨_, hK, rfl⟩)).low (by omega)
    · exact (hbel2.grown h3 (by omega) (fun k e => by cases e; omega)).grown (grownBy_putObj' W D (.deferred none)) (by have := h3.size; omega) (fun k e => by cases e; omega)
  case body =>
    rintro l' q a1 W hq ⟨hI, g, hz, hgl, rfl⟩
    have hI0 := hI
    obtain ⟨A2, c2, h1, h2, h3⟩ := hI
    have hq' : q < Ict.count l := by rw [← Ict.pairs_length]; exact hq
    have hq256 := Ict.count_le l
    have hg3 := h3.size
    have hgW := hz.lt
    obtain ⟨z0, z1, z2⟩ := hz.cell
    have cf := Go.Joins.cell_of_block ((h3.block w.heap.size (by omega) (by intro e; injection e with e; omega)).trans hf2) 0
    simp only [List.getElem?_toArray, List.getElem?_cons_zero] at cf
    have cn := Go.Joins.cell_of_block ((h3.block nb (by omega) (by intro e; injection e with e; omega)).trans hn2) 0
    simp only [List.getElem?_toArray, List.getElem?_cons_zero] at cn
    have HCz := Lib.hid (HC.out (Ict.zoneAt l q) W cn)
    have hsame := fun W' (h : WInv w2 (w.heap.size + 1) l p q W') => WInv.same (W := W') h
    have hnext := Ict.where_succ l p q
    have hwl := Ict.where_length l p q
    unfold zval at HCz ⊢
    generalize Ict.zoneAt l q = z at *
    obtain ⟨s, lo, hi⟩ := z
    simp only at z0 z1 z2 HCz hnext hsame ⊢
    clear hz hq HC
    cases s
    · have HS := Lib.hid (show KeepsOthers W W ∧ WInv w2 (w.heap.size + 1) l p (q + 1) W from ⟨KeepsOthers.below (Below.refl _ W), hsame W hI0 rfl⟩)
      clear hI0 hsame hnext HCz h1 h2 h3
      gi_wp2
      refine ⟨(fun f h => by cases h), ?_⟩
      gi_wp2
      exact HS.out
    · rw [Bool.true_and] at hnext hsame
      have HN := Lib.hid hnext
      have HSm := Lib.hid hsame
      have HI0 := Lib.hid hI0
      clear hnext hsame h1 h2 h3 hI0
      gi_wp2_with fail
      refine ⟨trivial, (CallsIn.inRound l' (callsIn_wide.2 HCz.out)).mono ?_⟩
      rintro e w5 ⟨rfl, hb5⟩
      have hI5 := ownFrom_below (wInv_own w2 (w.heap.size + 1) l p hbgl) HI0.out hb5
      have hko5 := KeepsOthers.below hb5
      clear HCz HI0 hb5 cf cn
      rcases hpz : p (true, lo, hi) with _ | _
      · have HS := Lib.hid (show KeepsOthers W w5 ∧ WInv w2 (w.heap.size + 1) l p (q + 1) w5 from ⟨hko5, HSm.out w5 hI5 hpz⟩)
        clear hI5 hko5 HSm HN hpz
        gi_wp2
        exact HS.out
      · have hnx : Ict.where l p (q + 1) = Ict.where l p q ++ [(q : Int)] := by rw [HN.out, hpz]; rfl
        obtain ⟨A3, c3, g1, g2, g3⟩ := hI5
        have hlen : (Ict.where l p q).length ≤ 256 := by omega
        have hs5 := g3.size
        have c5 := Go.Joins.cell_of_block g1 0
        simp only [List.getElem?_toArray, List.getElem?_cons_zero] at c5
        have hone := (iown_one w5 (q : Int)).row
        have g2' := g2.alloc (.cells #[.int .i64 (q : Int)] 3)
        have HP := Lib.hid (fun A5 c5 w8 ho8 hg8 => (where_push (l := l) (p := p) (q := q) (w8 := w8) (c5 := c5) (A5 := A5) (tmp := .cells #[.int .i64 (q : Int)] 3) hbgl g1 g2 g3 hnx ho8 hg8))
        have HKo := Lib.hid hko5
        have g1' : Go.Boxed w5 (w.heap.size + 1) 43 (.slice A3 (Ict.where l p q).length c3) := g1
        clear HN HSm hpz hnx hko5 g1 hwl g2
        generalize Ict.where l p q = X at *
        gi_wp2_with (gi_at_builtin; refine wpListIn_append_row elemI rfl (.tmp 19) (.tmp 21) rfl w2.heap.size A3 X.length c3 X rfl g2' _ _ 1 1 [_] rfl rfl hone (by omega) (by simp only [maxLen]; omega) (by simp; omega) ?_; intro A5 c5 w8 ho8 hg8 hat8; have hx8 : Go.Boxed w8 (w.heap.size + 1) 43 (.slice A3 X.length c3) := (g1'.alloc _).kept hg8 (fun e => by have := (g2'.lt e.symm).1; omega); have hc8 := hx8.cell; have hz8 := hx8.frozen)
        exact ⟨HKo.out.trans (HP.out A5 c5 w8 ho8 hg8).1, (HP.out A5 c5 w8 ho8 hg8).2⟩

theorem icAbove_any (A : Option Addr) (n c B : Nat) (l : List (Bool × Int)) (N : Int) (w : World) (hl : l.length = n) (hcap : n ≤ c) (hb : Cols w B A l) (hB : B ≤ w.heap.size) :
    Calls Try.prog 23 #[.slice A n c, .int .i64 N] w fun e w' => ∃ A' c', e = .returned (.slice A' (Ict.above l N).length c') ∧ IOwn w' w.heap.size A' (Ict.above l N).length c' (Ict.above l N) ∧ Below w.heap.size w w' := by
  have hmf : ∀ (fn : Fn) (first cap : Array Value) (w : World), (Instr.makeFunc fn first cap).run Try.prog w = .ok (.func fn first cap) w := fun _ _ _ _ => rfl
  have hbel : Below w.heap.size w (w.alloc (.cells #[.int .i64 N] 3)) := (Below.refl _ _).alloc (Nat.le_refl _) _
  have H := Lib.hid (where_above A n c w.heap.size l N w.heap.size (w.alloc (.cells #[.int .i64 N] 3)) hl hcap ((hb.wide hB).below hbel) (by simp) (World.alloc_heap_new _ _))
  clear hb hl
  go_enter Try.func23, Try.ntmps23
  go_wp2_with fail
  refine H.out.mono ?_
  rintro e w2 ⟨A', c', rfl, ho, hb2⟩
  go_wp2
  go_ret
  exact ⟨A', c', rfl, ho.low (by simp), hbel.trans (hb2.mono (by simp))⟩
end Go.Proofs.Ytgjopffdgdimlaa

/- ints.split. -/
namespace Go.Proofs.Ytgjopffdgdimlaa
open Go.RowKit
set_option maxRecDepth 100000

theorem Ict.marks_get {l : List (Bool × Int)} {k : Nat} (hk : k < l.length) : (Ict.marks l)[k]'(by rw [Ict.marks_length]; exact hk) = Ict.mark l[k] := by simp [Ict.marks]
theorem fill_same {α : Type} {l : List α} {n k : Nat} (z : α) (hl : l.length = n) (hk : k < n) (h : l[k]'(by omega) = z) : l.take k ++ List.replicate (n - k) z = l.take (k + 1) ++ List.replicate (n - (k + 1)) z := by
  rw [List.take_succ_eq_append_getElem (by omega), List.append_assoc, h, show n - k = (n - (k + 1)) + 1 from by omega, List.replicate_succ]
  rfl
def SplitPost (w : World) (l : List (Bool × Int)) (e : Ending) (w' : World) : Prop :=
  ∃ A c A2 c2, e = .returned (.tuple #[.slice A l.length c, .slice A2 (Ict.nums l).length c2]) ∧ NOwn w' w.heap.size A l.length c (Ict.marks l) ∧ IOwn w' w.heap.size A2 (Ict.nums l).length c2 (Ict.nums l) ∧ Below w.heap.size w w'

set_option maxHeartbeats 2000000 in
theorem split_any (A : Option Addr) (n cap B : Nat) (l : List (Bool × Int)) (w : World) (hl : l.length = n) (hn : n ≤ 4096) (hb : Cols w B A l) (hB : B ≤ w.heap.size) :
    Calls Try.prog 26 #[.slice A n cap] w (SplitPost w l) := by
  have hb := hb.wide hB
  have hmk := run_make_nums n (by omega) w
  have ho0 := own_nums w n (by simp only [maxLen]; omega)
  have hbel0 : Below w.heap.size w (w.alloc (.cells (madeCells #[.int .u64 0] n) 54)) := (Below.refl _ _).alloc (Nat.le_refl _) _
  have hsz0 : (w.alloc (.cells (madeCells #[.int .u64 0] n) 54)).heap.size = w.heap.size + 1 := by simp
  generalize w.alloc (.cells (madeCells #[.int .u64 0] n) 54) = w0 at *
  have hML : (Ict.marks l).length = n := by rw [Ict.marks_length, hl]
  have HML := Lib.hid hML
  have Hl := Lib.hid hl
  unfold SplitPost
  rw [hl]
  obtain ⟨g, hg⟩ : ∃ g, g = w.heap.size := ⟨_, rfl⟩
  rw [← hg] at hmk ho0 hbel0 hb hsz0 ⊢
  have Hg := Lib.hid hg
  clear hML hl hg
  go_enter Try.func26, Try.ntmps26
  go_wp2
  go_loopw [3, 11] (fun q i wr => ∃ (k c : Nat) (A2 : Option Addr), k ≤ n ∧ i = .int .i64 k ∧ q = .slice A2 (Ict.nums (l.take k)).length c ∧ NOwn wr g (some ⟨g, 0, none⟩) n n ((Ict.marks l).take k ++ List.replicate (n - k) 0) ∧ IOwn wr (g + 1) A2 (Ict.nums (l.take k)).length c (Ict.nums (l.take k)) ∧ Below g w wr ∧ g + 1 ≤ wr.heap.size) (fun _ i _ => n - (intOf i).toNat)
  case atStart => exact ⟨0, 0, none, by omega, rfl, rfl, by simpa using ho0, ROwn.nil _ _ _ _, hbel0, by omega⟩
  case round =>
    clear ho0 hbel0 hmk hsz0
    obtain ⟨k, c, A2, hk, rfl, rfl, ho, hi, hbel, hsz⟩ := hrel
    have hbr := hb.below hbel
    by_cases hlt : k < n
    · have hk' : k < l.length := by have := Hl.out; omega
      have hk4 : (Ict.nums (l.take k)).length ≤ 4096 := Nat.le_trans (Ict.nums_length _) (by rw [List.length_take]; omega)
      obtain ⟨ad, rfl, hlt', hc0, hc1, hc2⟩ := Cols.at_ hbr hk'
      have htk : Ict.nums (l.take (k + 1)) = Ict.nums (l.take k) ++ (if l[k].1 then [l[k].2] else []) := by rw [List.take_succ_eq_append_getElem hk', Ict.nums_snoc]
      have hmk := Ict.marks_get hk'
      have i1 : (k : Int) < (n : Int) := by omega
      have i0 : (0 : Int) ≤ (k : Int) := by omega
      obtain ⟨hg1, hg2⟩ := fill_get (0 : UInt64) HML.out hlt
      have hfs := fill_set (0 : UInt64) HML.out hlt
      have hsm := fun h => fill_same (0 : UInt64) HML.out hlt h
      rw [hmk] at hfs hsm
      generalize l[k] = cl at *
      obtain ⟨h, z⟩ := cl
      simp only at hc0 hc1 hc2 htk
      cases h
      · simp only [Bool.false_eq_true, if_false, List.append_nil] at htk
        have hst := ho
        rw [hsm rfl] at hst
        have Htk := Lib.hid htk
        have Hst := Lib.hid (hst.alloc (.cells #[.bool false, .int .i64 z] 46))
        have Hi := Lib.hid (hi.alloc (.cells #[.bool false, .int .i64 z] 46))
        have Hbl := Lib.hid (hbel.alloc (by omega) (.cells #[.bool false, .int .i64 z] 46))
        clear hst ho hi hsm hfs hg1 hg2 hmk hk4 htk
        go_wp2
        go_roundw
        case rel => exact ⟨k + 1, c, A2, by omega, by go_num, by rw [Htk.out], Hst.out, by rw [Htk.out]; exact Hi.out, Hbl.out, by simp; omega⟩
        case measure => simp [intOf]; omega
      · simp only [if_true] at htk
        have hoA := ho.alloc (.cells #[.bool true, .int .i64 z] 46)
        have hiA := hi.alloc (.cells #[.bool true, .int .i64 z] 46)
        have hblA := hbel.alloc (by omega) (.cells #[.bool true, .int .i64 z] 46)
        have hold := hoA.cell hg1
        rw [hg2] at hold
        have hold' : (wr.alloc (.cells #[.bool true, .int .i64 z] 46)).cell? ⟨g, k, none⟩ = some (.int .u64 0) := hold
        have hfree := hoA.free k
        have hst := hoA.store k (Ict.mark (true, z))
        rw [hfs] at hst
        have hu : uval (Ict.mark (true, z)) = .int .u64 1 := rfl
        rw [hu] at hst
        have hiB := hiA.kept (Lib.grownBy_setCell (wr.alloc (.cells #[.bool true, .int .i64 z] 46)) g k (.int .u64 1)) (.inr fun e => by have := (hiA.lt e).1; omega)
        have hblB := hblA.setCell (p := ⟨g, k, none⟩) (Nat.le_refl _) (.int .u64 1)
        have hiC := hiB.alloc (.cells #[.int .i64 z] 3)
        have hone := (iown_one ((wr.alloc (.cells #[.bool true, .int .i64 z] 46)).setCell ⟨g, k, none⟩ (.int .u64 1)) z).row
        have hsX : ((wr.alloc (.cells #[.bool true, .int .i64 z] 46)).setCell ⟨g, k, none⟩ (.int .u64 1)).heap.size = wr.heap.size + 1 := by simp
        rw [hsX] at hone
        have Hst := Lib.hid (hst.alloc (.cells #[.int .i64 z] 3))
        have Hbl := Lib.hid (hblB.alloc (by simp; omega) (.cells #[.int .i64 z] 3))
        have Htk := Lib.hid htk
        clear hst hoA hiA hblA hold hiB hblB hi ho hbel hfs hsm hg1 hg2 hmk htk hu
        go_wp2_with (at_builtin; go_must (refine wpList_append_row elemI rfl (.tmp 21) (.tmp 24) rfl (g + 1) A2 _ c _ rfl hiC _ _ 1 1 [_] rfl rfl hone (by omega) (by simp only [maxLen]; omega) (by simp; omega) ?_); intro A3 c3 w3 ho3 hg3 hat3)
        have hlt3 := fun k hk => (hiC.lt (k := k) hk).1
        have hb3 := Hbl.out.grown hg3 (by simp; omega) (fun k hk => by have := hlt3 k hk; omega)
        have hm3 := Hst.out.kept hg3 (.inr fun e => by have := hlt3 g e.symm; omega)
        have hs3 := hg3.size
        go_roundw
        case rel => exact ⟨k + 1, c3, A3, by omega, by go_num, by rw [Htk.out]; simp, hm3, by rw [Htk.out]; simpa using ho3, hb3, by simp at hs3; omega⟩
        case measure => simp [intOf]; omega
    · obtain rfl : k = n := by omega
      rw [Nat.sub_self, List.replicate_zero, List.append_nil, List.take_of_length_le (by rw [HML.out]; exact Nat.le_refl _)] at ho
      rw [List.take_of_length_le (by rw [Hl.out]; exact Nat.le_refl _)] at hi ⊢
      go_wp2
      go_ret2
      exact ⟨_, k, A2, c, rfl, ho, hi.low (by omega), hbel⟩
end Go.Proofs.Ytgjopffdgdimlaa

/- ints.Put; the document's Bytes. -/
namespace Go.Proofs.Ytgjopffdgdimlaa
open Go.RowKit
set_option maxRecDepth 100000

set_option maxHeartbeats 2000000 in
theorem icPut_any (A1 A2 : Option Addr) (n1 c1 n cap B : Nat) (b : List UInt8) (l : List (Bool × Int)) (w : World) (hl1 : b.length = n1) (hl : l.length = n) (hn1 : n1 ≤ 140737488351232) (hf : Ict.fits l)
    (hTot : n ≤ 4096 → (b ++ Ict.bytes l).length ≤ 140737488355328)
    (hb1 : Bytes w B A1 b) (hb : Cols w B A2 l) (hB : B ≤ w.heap.size) :
    Calls Try.prog 12 #[.slice A1 n1 c1, .slice A2 n cap] w (PackPost w (Ict.put b l)) := by
  have H0 := Lib.hid (formed_any A2 n cap B l w hl hb hB)
  unfold Ict.put
  have hb1 := hb1.wide hB
  have hb := hb.wide hB
  rcases hfm : Ict.formed l with _ | _
  · rw [hfm] at H0
    clear hfm hb1 hb hl1 hl hf hTot
    unfold PackPost
    go_enter Try.func12, Try.ntmps12
    go_wp2_with fail
    refine H0.out.mono ?_
    rintro e w1 ⟨rfl, hbel⟩
    clear H0
    go_wp2
    go_ret2
    exact ⟨none, 0, rfl, own_none _ _, hbel⟩
  · rw [hfm] at H0
    have hn : n ≤ 4096 := by
      simp only [Ict.formed, Bool.and_eq_true, decide_eq_true_eq] at hfm
      omega
    have hTot := hTot hn
    clear hfm
    have e : Ict.bytes l = (Num.num n ++ (Bits.pack (Ict.marks l) 1).1) ++ Pfor.list (foldL (Ict.nums l)) := by unfold Ict.bytes Ict.head; rw [hl]
    have e2 : b ++ Ict.bytes l = ((b ++ Num.num n) ++ (Bits.pack (Ict.marks l) 1).1) ++ Pfor.list (foldL (Ict.nums l)) := by rw [e]; simp [List.append_assoc]
    rw [e2] at hTot
    rw [if_pos rfl, e2]
    clear e e2
    have hML : (Ict.marks l).length = n := by rw [Ict.marks_length, hl]
    have hNL := Ict.nums_length l
    rw [hl] at hNL
    have H1 := Lib.hid (fun w' hb => split_any A2 n cap w'.heap.size l w' hl hn hb (Nat.le_refl _))
    have H2 := Lib.hid (fun A3 c3 w' (ho : NOwn w' w.heap.size A3 n c3 (Ict.marks l)) => pack_any A3 n c3 w'.heap.size 1 (Ict.marks l) w' hML (by omega) ho.row (Nat.le_refl _))
    have H3 := Lib.hid (fun w' hb => put_any A1 n1 c1 w'.heap.size n b w' hl1 (by omega) (by omega) hb (Nat.le_refl _))
    have hs9 := Num.size_le9 (show n < 18446744073709551616 by omega)
    have H4 := Lib.hid (fun A3 c3 A4 c4 w' hb hb2 => putInts_wide A3 A4 ((b ++ Num.num n) ++ (Bits.pack (Ict.marks l) 1).1).length c3 (Ict.nums l).length c4 ((b ++ Num.num n) ++ (Bits.pack (Ict.marks l) 1).1) (Ict.nums l) w' rfl rfl (by rw [List.length_append] at hTot; omega) (by omega) (Ict.fits_nums hf) hTot hb hb2)
    have hTq : ((b ++ Num.num n) ++ (Bits.pack (Ict.marks l) 1).1).length ≤ 140737488355328 := by rw [List.length_append] at hTot; omega
    have hOl : (b ++ Num.num n).length = n1 + Num.size n := by rw [List.length_append, hl1, Num.num_length]
    have HOl := Lib.hid hOl
    unfold SplitPost at H1
    rw [hl] at H1
    unfold PackPost at H2 ⊢
    clear hML hf hl1 hl hOl
    generalize Pfor.list (foldL (Ict.nums l)) = T at *
    generalize Ict.nums l = N at *
    generalize Ict.marks l = M at *
    generalize b ++ Num.num n = O at *
    generalize (Bits.pack M 1) = PK at *
    obtain ⟨P, E⟩ := PK
    simp only at H2 H4 hTq hTot ⊢
    have e3 : (O ++ P).length = n1 + Num.size n + P.length := by rw [List.length_append, HOl.out]
    rw [e3] at hTq H4
    clear e3 hTot
    generalize O ++ P ++ T = U at *
    go_enter Try.func12, Try.ntmps12
    go_wp2_with fail
    refine H0.out.mono ?_
    rintro e w1 ⟨rfl, hbel1⟩
    clear H0
    have H1' := Lib.hid (H1.out w1 ((hb.below hbel1).wide hbel1.size))
    go_wp2_with fail
    refine H1'.out.mono ?_
    rintro e w2 ⟨A3, c3, A4, c4, rfl, ho3, ho4, hbel2⟩
    clear H1 H1' hb
    have hb2 := hbel1.trans (hbel2.mono hbel1.size)
    have H2' := Lib.hid (H2.out A3 c3 w2 (ho3.low hbel1.size))
    go_wp2_with fail
    refine H2'.out.mono ?_
    rintro e w3 ⟨A5, c5, rfl, ho5, hbel3⟩
    clear H2 H2'
    have hb3 := hb2.trans (hbel3.mono hb2.size)
    have ho4' := (ho4.low hbel1.size).below hbel3
    have H3' := Lib.hid (H3.out w3 ((hb1.below hb3).wide hb3.size))
    go_wp2_with fail
    refine H3'.out.mono ?_
    rintro e w4 ⟨g6, c6, rfl, ho6, hbel4⟩
    clear H3 H3' hb1
    have hb4 := hb3.trans (hbel4.mono hb3.size)
    have hob := (ho5.below hbel4).bytes
    have ho4'' := ho4'.below hbel4
    have hsz3 := hb3.size
    have hsz4 := hb4.size
    go_wp2_with (at_builtin; refine wpList_append_bytes rfl (.tmp 28) (.tmp 29) rfl w3.heap.size _ _ c6 O rfl ho6 _ A5 P.length c5 P rfl rfl hob (by omega) hbel4.size ?_; intro A7 c7 w7 ho7 hg7 hat7)
    have hlt6 := (ho6.lt rfl).1
    have hi7 := (ho4''.kept hg7 (.inr fun e => by have := (ho4'.lt e).2; omega)).row
    have hb7 := hb4.grown hg7 hb4.size (fun k hk => by cases hk; omega)
    have H4' := Lib.hid (H4.out A7 c7 A4 c4 w7 ho7.bytes hi7)
    clear H4 hi7 ho6 ho7 hob ho4 ho4' ho4'' ho5 ho3
    go_wp2_with fail
    refine H4'.out.mono ?_
    rintro e w8 ⟨g8, c8, rfl, ho8, hbel8⟩
    clear H4'
    go_wp2
    go_ret2
    exact ⟨some ⟨g8, 0, none⟩, c8, rfl, ho8.low hb7.size, hb7.trans (hbel8.mono hb7.size)⟩
end Go.Proofs.Ytgjopffdgdimlaa

/- What the laws on columns share: alive. -/
namespace Go.Proofs.Ytgjopffdgdimlaa
open Go.RowKit
set_option maxRecDepth 100000

theorem alive_below : Ict.below [(true, 5), (false, 0), (true, 7)] 6 = [0] := by decide +kernel
theorem alive_above : Ict.above [(true, 5), (false, 0), (true, 7)] 7 = [] := by decide +kernel
theorem alive_put : (Ict.put [] [(true, 5), (false, 0), (true, 7)]).2 = 0 ∧ (Ict.put [] [(true, 5), (false, 0), (true, 7)]).1.take 2 = [3, 5] ∧ 2 < (Ict.put [] [(true, 5), (false, 0), (true, 7)]).1.length ∧ (Ict.put [] [(true, 5), (false, 0), (true, 7)]).1.length < 1000 := by decide +kernel

set_option maxHeartbeats 2000000 in
theorem alive_any (w : World) : Calls Try.prog 9 #[] w fun e w' => e = .returned (.bool true) ∧ Below w.heap.size w w' := by
  have hlit : COwn (w.alloc (.cells #[.bool true, .int .i64 5, .bool false, .int .i64 0, .bool true, .int .i64 7] 46)) w.heap.size (some ⟨w.heap.size, 0, none⟩) 3 3 [(true, 5), (false, 0), (true, 7)] :=
    MOwn.lit (f := cellV) (m := 2) (e := 46) (fun _ => rfl) w w.heap.size [(true, 5), (false, 0), (true, 7)] (Nat.le_refl _) (by simp [maxLen])
  have hbel : Below w.heap.size w (w.alloc (.cells #[.bool true, .int .i64 5, .bool false, .int .i64 0, .bool true, .int .i64 7] 46)) := (Below.refl _ _).alloc (Nat.le_refl _) _
  have hrow := hlit.row (fun _ => rfl)
  have hsz : (w.alloc (.cells #[.bool true, .int .i64 5, .bool false, .int .i64 0, .bool true, .int .i64 7] 46)).heap.size = w.heap.size + 1 := by simp
  obtain ⟨w1, hw1⟩ : ∃ w1, w1 = w.alloc (.cells #[.bool true, .int .i64 5, .bool false, .int .i64 0, .bool true, .int .i64 7] 46) := ⟨_, rfl⟩
  obtain ⟨p0, p1, p2, p3⟩ := alive_put
  have H0 := Lib.hid (icPut_any none (some ⟨w.heap.size, 0, none⟩) 0 0 3 3 w1.heap.size [] [(true, 5), (false, 0), (true, 7)] w1 rfl rfl (by omega) (by intro c hc; simp at hc; rcases hc with rfl | rfl | rfl <;> simp) (by
    intro _
    have : (Ict.put [] [(true, 5), (false, 0), (true, 7)]).1 = [] ++ Ict.bytes [(true, 5), (false, 0), (true, 7)] := by
      unfold Ict.put
      rw [if_pos (by decide)]
    rw [this] at p3
    omega) (Bytes.nil w1 _ none) (by rw [hw1]; exact hrow) (Nat.le_refl _))
  have HB := Lib.hid (fun W (hb : Below w1.heap.size w1 W) => icBelow_any (some ⟨w.heap.size, 0, none⟩) 3 3 w1.heap.size [(true, 5), (false, 0), (true, 7)] 6 W rfl (by omega) ((show Cols w1 w1.heap.size _ _ by rw [hw1]; exact hrow).below hb) hb.size)
  have HA := Lib.hid (fun W (hb : Below w1.heap.size w1 W) => icAbove_any (some ⟨w.heap.size, 0, none⟩) 3 3 w1.heap.size [(true, 5), (false, 0), (true, 7)] 7 W rfl (by omega) ((show Cols w1 w1.heap.size _ _ by rw [hw1]; exact hrow).below hb) hb.size)
  rw [alive_below] at HB
  rw [alive_above] at HA
  unfold PackPost at H0
  generalize Ict.put [] [(true, 5), (false, 0), (true, 7)] = PB at *
  obtain ⟨L, E⟩ := PB
  simp only at p0 p1 p2 p3 H0
  subst p0
  have Hw := Lib.hid hw1
  rw [← hw1] at hbel hsz
  have hk0 : L[0]'(by omega) = 3 := by
    have := congrArg (fun x => x[0]?) p1
    simpa [List.getElem?_take, List.getElem?_eq_getElem (show 0 < L.length by omega)] using this
  have hk1 : L[1]'(by omega) = 5 := by
    have := congrArg (fun x => x[1]?) p1
    simpa [List.getElem?_take, List.getElem?_eq_getElem (show 1 < L.length by omega)] using this
  rw [hw1] at H0
  clear hlit hrow p1 hw1
  go_enter Try.func9, Try.ntmps9
  go_wp2_with fail
  refine H0.out.mono ?_
  rintro e w2 ⟨A2, c2, rfl, ho2, hb2⟩
  rw [← Hw.out] at ho2 hb2
  clear H0
  obtain ⟨g, rfl, _, _⟩ := ho2.at_ (by omega)
  have c0 := ho2.cell (k := 0) (by omega)
  have c1 := ho2.cell (k := 1) (by omega)
  rw [hk0] at c0
  rw [hk1] at c1
  change w2.cell? ⟨g, 0, none⟩ = some (.int .u8 3) at c0
  change w2.cell? ⟨g, 1, none⟩ = some (.int .u8 5) at c1
  have hL0 : (2 : Int) < (L.length : Int) := by omega
  have HB' := Lib.hid (HB.out w2 hb2)
  clear HB hk0 hk1
  go_wp2_with fail
  refine HB'.out.mono ?_
  rintro e w3 ⟨A3, c3, rfl, ho3, hb3⟩
  have hb13 := hb2.trans (hb3.mono hb2.size)
  have hone := (iown_one w3 0).row
  have hbl4 : Below w3.heap.size w3 (w3.alloc (.cells #[.int .i64 0] 3)) := (Below.refl _ _).alloc (Nat.le_refl _) _
  have HI := Lib.hid (ints_any A3 (some ⟨w3.heap.size, 0, none⟩) 1 1 c3 1 _ _ [0] [0] _ rfl rfl (by omega) (by omega) (ho3.below hbl4).row hone)
  rw [show decide (([0] : List Int) = [0]) = true from rfl] at HI
  have hb14 := hb13.trans (hbl4.mono hb13.size)
  clear HB' ho3 hb3 hbl4 hone
  go_wp2_with fail
  refine HI.out.mono ?_
  rintro e w4 ⟨rfl, hd4⟩
  have hb15 := hb14.trans (hd4.below _)
  have HA' := Lib.hid (HA.out w4 hb15)
  clear HA HI
  go_wp2_with fail
  refine HA'.out.mono ?_
  rintro e w5 ⟨A5, c5, rfl, ho5, hb5⟩
  have hb16 := hbel.trans ((hb15.trans (hb5.mono hb15.size)).mono hbel.size)
  clear HA'
  go_wp2
  go_ret
  exact ⟨rfl, hb16⟩
end Go.Proofs.Ytgjopffdgdimlaa

/- Granules that hold a number that is asked for: by zones, and cell by cell. -/
namespace Go.Proofs.Ytgjopffdgdimlaa

theorem Ict.fold_lo (N : Int) : ∀ (cs : List (Bool × Int)) (z : Bool × Int × Int), ((cs.foldl Ict.zadd z).1 && decide ((cs.foldl Ict.zadd z).2.1 < N)) = ((z.1 && decide (z.2.1 < N)) || cs.any fun c => c.1 && decide (c.2 < N))
  | [], z => by rw [List.any_nil, Bool.or_false]; rfl
  | c :: cs, z => by
    rw [List.foldl_cons, Ict.fold_lo N cs, List.any_cons]
    obtain ⟨h, x⟩ := c
    obtain ⟨s, lo, hi⟩ := z
    cases h <;> cases s <;> simp [Ict.zadd]
    rw [← Bool.or_assoc]
    congr 1
    rw [Bool.eq_iff_iff]
    simp
    omega
theorem Ict.fold_hi (N : Int) : ∀ (cs : List (Bool × Int)) (z : Bool × Int × Int), ((cs.foldl Ict.zadd z).1 && decide (N < (cs.foldl Ict.zadd z).2.2)) = ((z.1 && decide (N < z.2.2)) || cs.any fun c => c.1 && decide (N < c.2))
  | [], z => by rw [List.any_nil, Bool.or_false]; rfl
  | c :: cs, z => by
    rw [List.foldl_cons, Ict.fold_hi N cs, List.any_cons]
    obtain ⟨h, x⟩ := c
    obtain ⟨s, lo, hi⟩ := z
    cases h <;> cases s <;> simp [Ict.zadd]
    rw [← Bool.or_assoc]
    congr 1
    rw [Bool.eq_iff_iff]
    simp
    omega
theorem Ict.zone_below (l : List (Bool × Int)) (N : Int) (g : Nat) : ((Ict.zoneAt l g).1 && Ict.pbelow N (Ict.zoneAt l g)) = (Ict.gran l g).any fun c => c.1 && decide (c.2 < N) := by
  unfold Ict.zoneAt Ict.zone Ict.pbelow
  rw [Ict.fold_lo]
  simp
theorem Ict.zone_above (l : List (Bool × Int)) (N : Int) (g : Nat) : ((Ict.zoneAt l g).1 && Ict.pabove N (Ict.zoneAt l g)) = (Ict.gran l g).any fun c => c.1 && decide (N < c.2) := by
  unfold Ict.zoneAt Ict.zone Ict.pabove
  rw [Ict.fold_hi]
  simp
/-- does one of the first k cells stand in granule g and hold P? -/
def Ict.hit (l : List (Bool × Int)) (P : Bool × Int → Bool) (k g : Nat) : Bool := (List.range k).any fun i => i / 16 == g && (l[i]?.map P).getD false
/-- the granules of those of the first k cells that hold P -/
def Ict.scan (l : List (Bool × Int)) (P : Bool × Int → Bool) (k : Nat) : List Nat := (List.range ((k + 15) / 16)).filter (Ict.hit l P k)
theorem Ict.hit_succ (l : List (Bool × Int)) (P : Bool × Int → Bool) (k g : Nat) : Ict.hit l P (k + 1) g = (Ict.hit l P k g || (k / 16 == g && (l[k]?.map P).getD false)) := by
  unfold Ict.hit
  rw [List.range_succ, List.any_append]
  simp
theorem Ict.hit_far (l : List (Bool × Int)) (P : Bool × Int → Bool) {k g : Nat} (h : k ≤ 16 * g) : Ict.hit l P k g = false := by
  unfold Ict.hit
  rw [List.any_eq_false]
  intro i hi
  have : i < k := by simpa using hi
  have : ¬ i / 16 = g := by omega
  simp [this]
theorem Ict.scan_parts (l : List (Bool × Int)) (P : Bool × Int → Bool) (k : Nat) :
    ∃ X : List Nat, (∀ x ∈ X, x < k / 16) ∧ Ict.scan l P k = X ++ (if Ict.hit l P k (k / 16) then [k / 16] else []) ∧ Ict.scan l P (k + 1) = X ++ (if Ict.hit l P k (k / 16) || (l[k]?.map P).getD false then [k / 16] else []) := by
  refine ⟨(List.range (k / 16)).filter (Ict.hit l P k), fun x hx => by have := (List.mem_filter.1 hx).1; simpa using this, ?_, ?_⟩
  · unfold Ict.scan
    by_cases h : k % 16 = 0
    · rw [show (k + 15) / 16 = k / 16 from by omega, Ict.hit_far l P (show k ≤ 16 * (k / 16) by omega)]
      simp
    · rw [show (k + 15) / 16 = k / 16 + 1 from by omega, List.range_succ, List.filter_append]
      congr 1
      rcases hh : Ict.hit l P k (k / 16) with _ | _ <;> simp [hh]
  · unfold Ict.scan
    rw [show (k + 1 + 15) / 16 = k / 16 + 1 from by omega, List.range_succ, List.filter_append]
    congr 1
    · apply List.filter_congr
      intro g hg
      have hg' : g < k / 16 := by simpa using hg
      rw [Ict.hit_succ]
      have : ¬ k / 16 = g := by omega
      simp [this]
    · rcases hh : (Ict.hit l P k (k / 16) || (l[k]?.map P).getD false) with _ | _ <;> simp [Ict.hit_succ, hh]
/-- one cell more: nothing is asked, or the granule is told already, or it comes -/
theorem Ict.scan_same {l : List (Bool × Int)} {P : Bool × Int → Bool} {k : Nat} (hk : k < l.length) (h : P l[k] = false) : Ict.scan l P (k + 1) = Ict.scan l P k := by
  obtain ⟨X, _, e1, e2⟩ := Ict.scan_parts l P k
  rw [e1, e2]
  simp [List.getElem?_eq_getElem hk, h]
theorem Ict.scan_told {l : List (Bool × Int)} {P : Bool × Int → Bool} {k : Nat} (h : (Ict.scan l P k).getLast? = some (k / 16)) : Ict.scan l P (k + 1) = Ict.scan l P k := by
  obtain ⟨X, hX, e1, e2⟩ := Ict.scan_parts l P k
  rcases hh : Ict.hit l P k (k / 16) with _ | _
  · rw [e1, hh] at h
    simp at h
    have := hX _ (List.mem_of_getLast? h)
    omega
  · rw [e1, e2]
    simp [hh]
theorem Ict.scan_new {l : List (Bool × Int)} {P : Bool × Int → Bool} {k : Nat} (hk : k < l.length) (hp : P l[k] = true) (h : (Ict.scan l P k).getLast? ≠ some (k / 16)) : Ict.scan l P (k + 1) = Ict.scan l P k ++ [k / 16] := by
  obtain ⟨X, hX, e1, e2⟩ := Ict.scan_parts l P k
  rcases hh : Ict.hit l P k (k / 16) with _ | _
  · rw [e1, e2]
    simp [hh, List.getElem?_eq_getElem hk, hp]
  · rw [e1, hh] at h
    simp at h
theorem Ict.hit_gran (l : List (Bool × Int)) (P : Bool × Int → Bool) (g : Nat) : Ict.hit l P l.length g = (Ict.gran l g).any P := by
  rw [Bool.eq_iff_iff]
  unfold Ict.hit Ict.gran
  rw [List.any_eq_true, List.any_eq_true]
  constructor
  · rintro ⟨i, hi, h⟩
    have hi' : i < l.length := by simpa using hi
    simp only [List.getElem?_eq_getElem hi', Option.map_some, Option.getD_some, Bool.and_eq_true, beq_iff_eq] at h
    refine ⟨l[i], ?_, h.2⟩
    rw [List.mem_iff_getElem]
    refine ⟨i - 16 * g, by simp; omega, ?_⟩
    rw [List.getElem_take, List.getElem_drop]
    congr 1
    omega
  · rintro ⟨c, hc, h⟩
    obtain ⟨j, hj, rfl⟩ := List.mem_iff_getElem.1 hc
    have hj' : j < 16 ∧ 16 * g + j < l.length := by simp at hj; omega
    refine ⟨16 * g + j, by simpa using hj'.2, ?_⟩
    rw [List.getElem_take, List.getElem_drop] at h
    simp only [List.getElem?_eq_getElem hj'.2, Option.map_some, Option.getD_some, h, Bool.and_true, beq_iff_eq]
    omega
theorem Ict.scan_length (l : List (Bool × Int)) (P : Bool × Int → Bool) (k : Nat) : (Ict.scan l P k).length ≤ (k + 15) / 16 := by
  unfold Ict.scan
  exact Nat.le_trans (List.length_filter_le _ _) (by simp)
def Ict.ints (l : List Nat) : List Int := l.map fun (g : Nat) => (g : Int)
theorem Ict.below_scan {l : List (Bool × Int)} (h : Ict.formed l = true) (N : Int) : Ict.below l N = Ict.ints (Ict.scan l (fun c => c.1 && decide (c.2 < N)) l.length) := by
  unfold Ict.below Ict.where Ict.ints Ict.scan Ict.count
  rw [h, if_pos rfl]
  congr 1
  apply List.filter_congr
  intro g _
  rw [Ict.zone_below, Ict.hit_gran]
theorem Ict.above_scan {l : List (Bool × Int)} (h : Ict.formed l = true) (N : Int) : Ict.above l N = Ict.ints (Ict.scan l (fun c => c.1 && decide (N < c.2)) l.length) := by
  unfold Ict.above Ict.where Ict.ints Ict.scan Ict.count
  rw [h, if_pos rfl]
  congr 1
  apply List.filter_congr
  intro g _
  rw [Ict.zone_above, Ict.hit_gran]
theorem Ict.below_none {l : List (Bool × Int)} (h : Ict.formed l = false) (N : Int) : Ict.below l N = [] := by simp [Ict.below, Ict.where, Ict.count, h]
theorem Ict.above_none {l : List (Bool × Int)} (h : Ict.formed l = false) (N : Int) : Ict.above l N = [] := by simp [Ict.above, Ict.where, Ict.count, h]
theorem Cols.atAd {w : World} {B : Nat} {ad : Addr} {l : List (Bool × Int)} (h : Cols w B (some ad) l) {k : Nat} (hk : k < l.length) :
    w.cell? (ad.add (k * 2)) = some (.bool l[k].1) ∧ w.cell? (ad.add (k * 2 + 1)) = some (.int .i64 l[k].2) ∧ w.cell? ⟨(ad.add (k * 2)).block, (ad.add (k * 2)).off + 1, none⟩ = some (.int .i64 l[k].2) := by
  obtain ⟨ad', ha, _, h0, h1, h2⟩ := h.at_ hk
  cases ha
  exact ⟨h0, h1, h2⟩
theorem Bits.pack_short (M : List UInt64) : (Bits.pack M 1).1.length ≤ (M.length + 7) / 8 := by
  unfold Bits.pack
  split
  · simp
  · split
    · simp only [Bits.packed_length, Bits.size]
      simp
    · simp
theorem Ict.bytes_length (l : List (Bool × Int)) (h : l.length ≤ 1000000) : (Ict.bytes l).length ≤ 18 + (l.length + 7) / 8 + 268 * ((l.length + 31) / 32) := by
  unfold Ict.bytes Ict.head Pfor.list
  have h1 := Num.size_le9 (show l.length < 18446744073709551616 by omega)
  have h2 := Bits.pack_short (Ict.marks l)
  rw [Ict.marks_length] at h2
  have h3 := Pfor.blocks_length_32 (foldL (Ict.nums l))
  have h4 := Ict.nums_length l
  have h5 := Num.size_le9 (show (foldL (Ict.nums l)).length < 18446744073709551616 by rw [foldL_length]; omega)
  rw [foldL_length] at h3 h5
  simp only [List.length_append, Num.num_length, foldL_length]
  omega
end Go.Proofs.Ytgjopffdgdimlaa
