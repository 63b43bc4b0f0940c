/- Slices of one-cell values of any one kind: what they hold in a world, how that is kept; slices of one's own, made, stored into, appended to. -/
import Derived.Test.YtggelnlbdpdegaaDoorBlk
import Derived.Laws.OwnMore
namespace Go.Proofs.YtggelnlbdpdegaaDoor
open Go.RowKit
set_option maxRecDepth 100000

/-- A slice with address A holds the values l (each by f), in a block below B; of an empty one nothing is asked. -/
def Row {α : Type} (f : α → Value) (w : World) (B : Nat) (A : Option Addr) (l : List α) : Prop :=
  l ≠ [] → ∃ ad, A = some ad ∧ ad.block < B ∧ ∀ i, (h : i < l.length) → w.cell? (ad.add i) = some (f l[i])

namespace Row
variable {α : Type} {f : α → Value} {w w' : World} {B B' : Nat} {A : Option Addr} {l : List α}
theorem nil (f : α → Value) (w : World) (B : Nat) (A : Option Addr) : Row f w B A [] := fun h => absurd rfl h
theorem none_ (h : Row f w B none l) : l = [] := by
  rcases Classical.em (l = []) with e | e
  · exact e
  · obtain ⟨_, e, _⟩ := h e; cases e
theorem get (h : Row f w B A l) {k : Nat} (hk : k < l.length) : ∃ ad, A = some ad ∧ ad.block < B ∧ w.cell? (ad.add k) = some (f l[k]) := by
  obtain ⟨ad, ha, hb, hc⟩ := h (fun e => by subst e; simp at hk)
  exact ⟨ad, ha, hb, hc k hk⟩
theorem keep (h : Row f w B A l) (hk : ∀ p : Addr, p.block < B → w'.cell? p = w.cell? p) : Row f w' B A l := fun hn => by
  obtain ⟨ad, ha, hb, hc⟩ := h hn
  exact ⟨ad, ha, hb, fun i hi => (hk _ (by rw [addr_add_block]; exact hb)).trans (hc i hi)⟩
theorem wide (h : Row f w B A l) (hB : B ≤ B') : Row f w B' A l := fun hn => by
  obtain ⟨ad, ha, hb, hc⟩ := h hn
  exact ⟨ad, ha, Nat.lt_of_lt_of_le hb hB, hc⟩
theorem below (h : Row f w B A l) (hb : Below B w w') : Row f w' B A l := h.keep fun _ hp => hb.cell hp
theorem drewN (h : Row f w B A l) (q : Nat) : Row f (w.drewN q) B A l := h
theorem news {ad : Addr} (h : Row f w B (some ad) l) : ∀ j u, (l.map f)[j]? = some u → w.cell? (ad.add j) = some u := by
  intro j u hu
  have hj : j < l.length := by
    rcases Nat.lt_or_ge j l.length with hlt | hge
    · exact hlt
    · rw [List.getElem?_eq_none (by rw [List.length_map]; exact hge)] at hu; cases hu
  obtain ⟨ad', ha, _, hc⟩ := h (fun e => by subst e; simp at hj)
  cases ha
  rw [hc j hj]
  simp [List.getElem?_eq_getElem hj] at hu
  rw [← hu]
theorem take (h : Row f w B A l) (k : Nat) : Row f w B A (l.take k) := fun hn => by
  obtain ⟨ad, ha, hb, hc⟩ := h (fun e => hn (by subst e; simp))
  exact ⟨ad, ha, hb, fun i hi => by rw [List.getElem_take]; exact hc i (by simp at hi; omega)⟩
theorem drop (h : Row f w B A l) {k cap : Nat} (hk : k ≤ l.length) (hc : l.length ≤ cap) :
    Row f w B (if cap = k then A else A.map (·.add k)) (l.drop k) := fun hn => by
  have hlt : k < l.length := by
    rcases Nat.lt_or_ge k l.length with hlt | hge
    · exact hlt
    · exact absurd (List.drop_eq_nil_of_le hge) hn
  obtain ⟨ad, rfl, hb, hcell⟩ := h (fun e => by subst e; simp at hlt)
  rw [if_neg (by omega)]
  refine ⟨ad.add k, rfl, by rw [addr_add_block]; exact hb, fun i hi => ?_⟩
  rw [addr_add_add, List.getElem_drop]
  exact hcell _ _
end Row

/-- what a kind of element has: one cell, so many bytes -/
structure Elem {α : Type} (f : α → Value) (t e : TypeId) (bytes : Nat) : Prop where
  one : ∀ x, (f x).oneCell' = true
  under : Tryd.prog.underlying t = some (.slice e)
  info : ∃ i z, Tryd.prog.info? e = some i ∧ i.zero = some z ∧ i.size = 1 ∧ i.bytes = bytes ∧ z.cells.size = 1

/-- The slice at A, of n values, is l, in a block from 'base' on that nothing else holds. -/
def ROwn {α : Type} (f : α → Value) (e : TypeId) (w : World) (base : Nat) (A : Option Addr) (n c : Nat) (l : List α) : Prop := w.ownsRow base e 1 (.slice A n c) n (l.map f)

namespace ROwn
variable {α : Type} {f : α → Value} {e : TypeId} {w w' : World} {base : Nat} {A : Option Addr} {n c : Nat} {l : List α}
theorem nil (f : α → Value) (e : TypeId) (w : World) (base : Nat) : ROwn f e w base none 0 0 [] := World.ownsRow_nil w base e 1
theorem len (h : ROwn f e w base A n c l) : l.length = n := by have := h.1; rw [List.length_map] at this; omega
theorem lt (h : ROwn f e w base A n c l) {k : Nat} (hk : blk A = some k) : base ≤ k ∧ k < w.heap.size := World.ownsRow.lt h k (by rw [ownBlock_eq]; exact hk)
theorem kept {row : Option Nat} (h : ROwn f e w base A n c l) (hg : w.grownBy w' row) (hne : blk A = none ∨ blk A ≠ row) : ROwn f e w' base A n c l :=
  World.ownsRow.kept h hg (by rw [ownBlock_eq]; exact hne)
theorem alloc (h : ROwn f e w base A n c l) (o : Obj) : ROwn f e (w.alloc o) base A n c l := World.ownsRow.alloc h o
theorem low {b' : Nat} (h : ROwn f e w base A n c l) (hb : b' ≤ base) : ROwn f e w b' A n c l := by
  refine ⟨h.1, ?_⟩
  rcases h.2 with h2 | ⟨g, cap, cur, h1, h2, r⟩
  · exact .inl h2
  · exact .inr ⟨g, cap, cur, h1, Nat.le_trans hb h2, r⟩
theorem below (h : ROwn f e w base A n c l) (hb : Below w.heap.size w w') : ROwn f e w' base A n c l := by
  refine ⟨h.1, ?_⟩
  rcases h.2 with h2 | ⟨g, cap, cur, h1, h2, h3, r⟩
  · exact .inl h2
  · have hlt : g < w.heap.size := by
      rcases Nat.lt_or_ge g w.heap.size with hlt | hge
      · exact hlt
      · rw [Array.getElem?_eq_none hge] at h3; cases h3
    exact .inr ⟨g, cap, cur, h1, h2, (hb.block g hlt).trans h3, r⟩
theorem at_ (h : ROwn f e w base A n c l) (hn : 0 < n) : ∃ g, A = some ⟨g, 0, none⟩ ∧ base ≤ g ∧ g < w.heap.size := by
  obtain ⟨g, cap, hv, hb, hlt⟩ := World.ownsRow.form h hn
  injection hv with h1
  exact ⟨g, h1, hb, hlt⟩
theorem cell {g : Nat} (h : ROwn f e w base (some ⟨g, 0, none⟩) n c l) {k : Nat} (hk : k < l.length) : w.cell? ⟨g, k, none⟩ = some (f l[k]) := by
  have := World.ownsRow.cellAt h k (by rw [Nat.mul_one, ← h.len]; exact hk)
  rw [this]
  simp [List.getElem?_eq_getElem hk]
theorem row (h : ROwn f e w base A n c l) : Row f w w.heap.size A l := fun hn => by
  have hl := h.len
  have h0 : 0 < n := by
    rcases Nat.eq_zero_or_pos n with h0 | h0
    · exact absurd (List.eq_nil_of_length_eq_zero (by omega)) hn
    · exact h0
  obtain ⟨g, rfl, _, hlt⟩ := h.at_ h0
  refine ⟨_, rfl, hlt, fun i hi => ?_⟩
  rw [show (⟨g, 0, none⟩ : Addr).add i = ⟨g, i, none⟩ from by by_cases h : i = 0 <;> simp [Addr.add, h]]
  exact h.cell hi
theorem free {g : Nat} (h : ROwn f e w base (some ⟨g, 0, none⟩) n c l) (k : Nat) : w.frozen? ⟨g, k, none⟩ = false := World.ownsRow.frozenAt h k
theorem store {g : Nat} (h : ROwn f e w base (some ⟨g, 0, none⟩) n c l) (k : Nat) (x : α) : ROwn f e (w.setCell ⟨g, k, none⟩ (f x)) base (some ⟨g, 0, none⟩) n c (l.set k x) := by
  have := (World.ownsRow.stored h k (f x)).1
  unfold ROwn
  rw [show (l.set k x).map f = (l.map f).set k (f x) from by simp]
  exact this
theorem cap (h : ROwn f e w base A n c l) : n ≤ c := by
  rcases h.2 with ⟨_, rfl⟩ | ⟨g, cap, cur, hv, _, _, hnc, _⟩
  · omega
  · injection hv with _ _ h3
    omega
theorem block {g : Nat} (h : ROwn f e w base (some ⟨g, 0, none⟩) n c l) : base ≤ g ∧ g < w.heap.size := h.lt rfl
theorem size {g : Nat} (h : ROwn f e w base (some ⟨g, 0, none⟩) n c l) : base ≤ w.heap.size := by have := h.block; omega
/-- a literal -/
theorem lit (w : World) (base : Nat) (l : List α) (hb : base ≤ w.heap.size) (hm : l.length ≤ maxLen) :
    ROwn f e (w.alloc (.cells (l.map f).toArray e)) base (some ⟨w.heap.size, 0, none⟩) l.length l.length l := by
  have h := World.ownsRow_lit (e := e) (size := 1) w (l.map f).toArray l.length hb hm (by simp)
  exact h
/-- a made slice with nothing in it -/
theorem made (w : World) (base : Nat) (cur : Array Value) (cap : Nat) (hb : base ≤ w.heap.size) (hm : cap ≤ maxLen) (hs : cur.size = cap) :
    ROwn f e (w.alloc (.cells cur e)) base (some ⟨w.heap.size, 0, none⟩) 0 cap [] := World.ownsRow_made w cur cap hb hm (by omega)
end ROwn

set_option maxRecDepth 100000 in
theorem run_append_row {α : Type} {f : α → Value} {t e : TypeId} {bytes : Nat} (E : Elem f t e bytes) (w : World) (base : Nat) (ty : TypeId) (A : Option Addr) (n c : Nat) (l : List α) (hown : ROwn f e w base A n c l)
    (B : Nat) (A2 : Option Addr) (m c2 : Nat) (l2 : List α) (hl2 : l2.length = m) (hb : Row f w B A2 l2) (hbytes : (n + m) * bytes ≤ 140737488355328) (hm : n + m ≤ maxLen) (hbase : base ≤ w.heap.size) :
    ∃ A' c' w', (Builtin.append_ #[t, t] ty #[.slice A n c, .slice A2 m c2]).run Tryd.prog w = .ok (.slice A' (n + m) c') w' ∧
      ROwn f e w' base A' (n + m) c' (l ++ l2) ∧ w.grownBy w' (blk A) ∧ (blk A' = blk A ∨ blk A' = some w.heap.size) := by
  obtain ⟨i0, z, hi0, hz0, hz1, hz2, hzc⟩ := E.info
  rcases A2 with _ | ad
  · have hm := hb.none_
    subst hm
    obtain rfl : 0 = m := by simpa using hl2
    refine ⟨A, c, w, ?_, by simpa using hown, World.grownBy.refl w _, .inl rfl⟩
    rcases hown.2 with ⟨hv, rfl⟩ | ⟨g, cap, cur, hv, _, _, hnc, _⟩
    · injection hv with h1 _ h3
      subst h1 h3
      simp [Builtin.append_, run_underlying E.under, sizeOf, typeInfo, hi0, Builtin.lenOf, Builtin.firstCells]
    · injection hv with h1 h2 h3
      subst h1 h3
      simp [Builtin.append_, run_underlying E.under, sizeOf, typeInfo, hi0, Builtin.lenOf, Builtin.firstCells, hnc, storeCells]
  · obtain ⟨v', w', hrun, h2, h3, _, h5⟩ := run_append_own_at (P := Tryd.prog) w base t ty e i0 z 1 bytes E.under hi0 hz0 hz1 hz2 hzc (by omega) (.slice A n c) n (l.map f) hown
      ad m c2 (l2.map f) (by rw [List.length_map]; omega) hb.news (by intro u hu; obtain ⟨x, _, rfl⟩ := List.mem_map.1 hu; exact E.one x) hm hbytes hbase
    rw [← List.map_append] at h2
    rw [ownBlock_eq] at h3 h5
    rcases h2.2 with ⟨rfl, h0⟩ | ⟨g, cap, cur, rfl, _⟩
    · refine ⟨none, 0, w', ?_, ?_, h3, h5⟩
      · rw [h0]; exact hrun
      · unfold ROwn; rw [h0] at h2 ⊢; exact h2
    · exact ⟨_, cap, w', hrun, h2, h3, h5⟩

theorem wpList_append_row {α : Type} {f : α → Value} {t e : TypeId} {bytes : Nat} (E : Elem f t e bytes) {w : World} {ops : Array Oper} {rest : List Oper} {o : Oper} {a : Act} {Q : Exit → Act → World → Prop} (hw : Region.wanted o (yielded ops a.tmps) = true) (s x : Operand)
    (ho : o.op = .call { callee := .builtin .append, args := #[s, x], argTypes := #[t, t] })
    (base : Nat) (A : Option Addr) (n c : Nat) (l : List α) (hs : a.eval s = .slice A n c) (hown : ROwn f e w base A n c l)
    (B : Nat) (A2 : Option Addr) (m c2 : Nat) (l2 : List α) (hx : a.eval x = .slice A2 m c2) (hl2 : l2.length = m) (hb : Row f w B A2 l2) (hbytes : (n + m) * bytes ≤ 140737488355328) (hm : n + m ≤ maxLen) (hbase : base ≤ w.heap.size)
    (h : ∀ A' c' w', ROwn f e w' base A' (n + m) c' (l ++ l2) → w.grownBy w' (blk A) → (blk A' = blk A ∨ blk A' = some w.heap.size) → wpList Tryd.prog ops Q rest (a.put o.dst (.slice A' (n + m) c')) w') :
    wpList Tryd.prog ops Q (o :: rest) a w := by
  obtain ⟨A', c', w', hrun, h2, h3, h4⟩ := run_append_row E w base o.type A n c l hown B A2 m c2 l2 hl2 hb hbytes hm hbase
  refine wpList_step fun K hK => ?_
  rw [if_pos hw]
  unfold Oper.wp execOp
  simp only [ho, resolve, invoke, builtin, Sem.run_bind, Sem.run_pure, Result.andThen_ok, List.map_toArray, List.map_cons, List.map_nil, hs, hx, hrun]
  exact hK _ _ (h A' c' w' h2 h3 h4)
end Go.Proofs.YtggelnlbdpdegaaDoor
