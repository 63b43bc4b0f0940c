/- A list of byte slices of a call's own: appended to, kept. -/
import Derived.Test.YtgjofpjijnbjeaaDoorList
namespace Go.Proofs.YtgjofpjijnbjeaaDoor
open Go.RowKit

theorem list_info : (Tryd.prog.info? 22).map (fun i => (i.zero, i.size, i.bytes)) = some (some (.slice none 0 0), 1, 24) := by kernel_rfl

def ListOwn (w : World) (base : Nat) (A : Option Addr) (n c : Nat) (ls : List (List UInt8)) : Prop :=
  ∃ vs : List Value, w.ownsRow base 22 1 (.slice A n c) n vs ∧ ls.length = n ∧
    ∀ i, (h : i < ls.length) → ∃ Ai ci, vs[i]? = some (.slice Ai ls[i].length ci) ∧ Own w base Ai ls[i].length ci ls[i]

theorem rows_apart {w : World} {b1 b2 e1 e2 s1 s2 n1 n2 : Nat} {v1 v2 : Value} {xs1 xs2 : List Value} (h1 : w.ownsRow b1 e1 s1 v1 n1 xs1) (h2 : w.ownsRow b2 e2 s2 v2 n2 xs2) (hne : e1 ≠ e2) :
    v1.ownBlock = none ∨ v1.ownBlock ≠ v2.ownBlock := by
  rcases h1.2 with ⟨rfl, _⟩ | ⟨g1, cap1, cur1, rfl, _, hg1, _⟩
  · exact .inl rfl
  · refine .inr fun he => ?_
    rcases h2.2 with ⟨rfl, _⟩ | ⟨g2, cap2, cur2, rfl, _, hg2, _⟩
    · cases he
    · injection he with he
      have he' : g1 = g2 := he
      subst he'
      rw [hg1] at hg2
      injection hg2 with hg2
      injection hg2 with _ ht
      exact hne ht

theorem ownsRow_below {w w' : World} {base e size n : Nat} {v : Value} {xs : List Value} (h : w.ownsRow base e size v n xs) (hb : Below w.heap.size w w') : w'.ownsRow base e size v n xs := by
  refine ⟨h.1, ?_⟩
  rcases h.2 with h2 | ⟨g, cap, cur, h1, h2, h3, r⟩
  · exact .inl h2
  · have hlt : g < w.heap.size := by
      rcases Nat.lt_or_ge g w.heap.size with hlt | hge
      · exact hlt
      · rw [Array.getElem?_eq_none hge] at h3; cases h3
    exact .inr ⟨g, cap, cur, h1, h2, (hb.block g hlt).trans h3, r⟩

namespace ListOwn
variable {w w' : World} {base : Nat} {A : Option Addr} {n c : Nat} {ls : List (List UInt8)}
theorem nil (w : World) (base : Nat) : ListOwn w base none 0 0 [] := ⟨[], World.ownsRow_nil w base _ 1, rfl, fun i h => absurd h (by simp)⟩
theorem len (h : ListOwn w base A n c ls) : ls.length = n := by obtain ⟨_, _, h, _⟩ := h; exact h
theorem below (h : ListOwn w base A n c ls) (hb : Below w.heap.size w w') : ListOwn w' base A n c ls := by
  obtain ⟨vs, h1, h2, h3⟩ := h
  refine ⟨vs, ownsRow_below h1 hb, h2, fun i hi => ?_⟩
  obtain ⟨Ai, ci, e1, e2⟩ := h3 i hi
  exact ⟨Ai, ci, e1, e2.below hb⟩
theorem lists (h : ListOwn w base A n c ls) : Lists w w.heap.size A ls := fun hn => by
  obtain ⟨vs, h1, h2, h3⟩ := h
  have h0 : 0 < n := by
    rcases Nat.eq_zero_or_pos n with h0 | h0
    · exact absurd (List.eq_nil_of_length_eq_zero (by omega)) hn
    · exact h0
  obtain ⟨g, cap, hv, _, hlt⟩ := h1.form h0
  have hA : A = some ⟨g, 0, none⟩ := by injection hv
  subst hA
  refine ⟨_, rfl, hlt, fun i hi => ?_⟩
  obtain ⟨Ai, ci, e1, e2⟩ := h3 i hi
  exact ⟨Ai, ci, h1.cells (g := g) rfl i _ e1, e2.bytes⟩
end ListOwn

/-- 'list = append(list, p)', p a byte slice of one's own -/
theorem run_append_list (w : World) (base : Nat) (ty : TypeId) (A : Option Addr) (n c : Nat) (ls : List (List UInt8)) (hown : ListOwn w base A n c ls)
    (Ap : Option Addr) (cp : Nat) (p : List UInt8) (hp : Own w base Ap p.length cp p) (hbytes : (n + 1) * 24 ≤ 140737488355328) (hbase : base ≤ w.heap.size) :
    ∃ A' c' w', (Builtin.append_ #[35, 35] ty #[.slice A n c, .slice (some ⟨w.heap.size, 0, none⟩) 1 1]).run Tryd.prog (w.alloc (.cells #[.slice Ap p.length cp] 22)) = .ok (.slice A' (n + 1) c') w' ∧
      ListOwn w' base A' (n + 1) c' (ls ++ [p]) ∧ Below base w w' := by
  obtain ⟨i0, hi0, hz0, hz1, hz2⟩ := info_parts list_info
  obtain ⟨vs, h1, h2, h3⟩ := hown
  have h1' := h1.alloc (.cells #[.slice Ap p.length cp] 22)
  obtain ⟨v', w', hrun, o2, g3, _, h5⟩ := run_append_own_at (P := Tryd.prog) (w.alloc (.cells #[.slice Ap p.length cp] 22)) base 35 ty 22 i0 _ 1 24 Tryd.underlying35 hi0 hz0 hz1 hz2 rfl (by omega)
    (.slice A n c) n vs h1' ⟨w.heap.size, 0, none⟩ 1 1 [.slice Ap p.length cp] rfl (cell_one_new _ _ _) (by intro u hu; simp at hu; subst hu; rfl) (by simp only [maxLen]; omega) hbytes (by simp; omega)
  have hlv : vs.length = n := by have := h1.1; omega
  have hkeep : ∀ {Ai : Option Addr} {m ci : Nat} {x : List UInt8}, Own w base Ai m ci x → Own w' base Ai m ci x := fun {Ai m ci x} ho => by
    have ho' := ho.alloc (.cells #[.slice Ap p.length cp] 22)
    exact ho'.kept (row := (Value.slice A n c).ownBlock) g3 (by have := rows_apart ho' h1' (by decide); rwa [ownBlock_eq] at this)
  have hlow : ∀ k, (Value.slice A n c).ownBlock = some k → base ≤ k := fun k hk => (h1.lt k hk).1
  obtain ⟨g, cap, rfl, _, _⟩ := o2.form (by omega)
  refine ⟨_, cap, w', hrun, ⟨vs ++ [.slice Ap p.length cp], o2, by simp [h2], fun i hi => ?_⟩, ((Below.refl _ _).alloc hbase _).grown g3 (by simp; omega) hlow⟩
  by_cases hlt : i < ls.length
  · obtain ⟨Ai, ci, e1, e2⟩ := h3 i hlt
    have e : (ls ++ [p])[i] = ls[i] := List.getElem_append_left hlt
    rw [e]
    exact ⟨Ai, ci, by rw [List.getElem?_append_left (by omega)]; exact e1, hkeep e2⟩
  · have hi' : i = ls.length := by simp at hi; omega
    subst hi'
    have e : (ls ++ [p])[ls.length] = p := by simp
    rw [e]
    exact ⟨Ap, cp, by rw [List.getElem?_append_right (by omega), hlv, ← h2]; simp, hkeep hp⟩

theorem wpList_append_list {w : World} {ops : Array Oper} {rest : List Oper} {o : Oper} {a : Act} {Q : Exit → Act → World → Prop} (hw : Region.wanted o (yielded ops a.tmps) = true) (s x : Operand)
    (ho : o.op = .call { callee := .builtin .append, args := #[s, x], argTypes := #[35, 35] })
    (base : Nat) (A : Option Addr) (n c : Nat) (ls : List (List UInt8)) (hs : a.eval s = .slice A n c) (hown : ListOwn w base A n c ls)
    (Ap : Option Addr) (cp : Nat) (p : List UInt8) (hx : a.eval x = .slice (some ⟨w.heap.size, 0, none⟩) 1 1) (hp : Own w base Ap p.length cp p) (hbytes : (n + 1) * 24 ≤ 140737488355328) (hbase : base ≤ w.heap.size)
    (h : ∀ A' c' w', ListOwn w' base A' (n + 1) c' (ls ++ [p]) → Below base w w' → wpList Tryd.prog ops Q rest (a.put o.dst (.slice A' (n + 1) c')) w') :
    wpList Tryd.prog ops Q (o :: rest) a (w.alloc (.cells #[.slice Ap p.length cp] 22)) := by
  obtain ⟨A', c', w', hrun, h2, h3⟩ := run_append_list w base o.type A n c ls hown Ap cp p hp hbytes hbase
  refine wpList_step fun K hK => ?_
  rw [if_pos hw]
  unfold Oper.wp execOp
  simp only [ho, resolve, invoke, builtin, Sem.run_bind, Sem.run_pure, Result.andThen_ok, List.map_toArray, List.map_cons, List.map_nil, hs, hx, hrun]
  exact hK _ _ (h A' c' w' h2 h3)

/-! ## the frames that bytes begin with -/
/-- the payloads, their size together, and the error that ends them -/
def split : Nat → List UInt8 → List (List UInt8) × Nat × Nat
  | 0, _ => ([], 0, 0)
  | f + 1, l => if l = [] then ([], 0, 0) else if frameErr l ≠ 0 then ([], 0, frameErr l) else
    let r := split f (l.drop (word l + 8))
    (pay l :: r.1, word l + 8 + r.2.1, r.2.2)
theorem split_nil (f : Nat) : split f [] = ([], 0, 0) := by cases f <;> simp [split]
theorem split_err {f : Nat} {l : List UInt8} (hn : l ≠ []) (h : frameErr l ≠ 0) : split (f + 1) l = ([], 0, frameErr l) := by
  rw [split, if_neg hn, if_pos h]
theorem split_ok {f : Nat} {l : List UInt8} (hn : l ≠ []) (h : frameErr l = 0) :
    split (f + 1) l = (pay l :: (split f (l.drop (word l + 8))).1, word l + 8 + (split f (l.drop (word l + 8))).2.1, (split f (l.drop (word l + 8))).2.2) := by
  rw [split, if_neg hn, if_neg (by omega)]

/-- where a loop stands that has split off ls, s bytes: the rest gives the rest -/
def Stand (l : List UInt8) (s : Nat) (ls : List (List UInt8)) : Prop :=
  ∃ f, (l.drop s).length ≤ f ∧ split l.length l = (ls ++ (split f (l.drop s)).1, s + (split f (l.drop s)).2.1, (split f (l.drop s)).2.2)
theorem Stand.start (l : List UInt8) : Stand l 0 [] := ⟨l.length, by simp, by simp⟩
theorem Stand.done {l : List UInt8} {s : Nat} {ls : List (List UInt8)} (h : Stand l s ls) (hs : s = l.length) : split l.length l = (ls, s, 0) := by
  obtain ⟨f, hf, he⟩ := h
  have : l.drop s = [] := List.drop_eq_nil_of_le (by omega)
  rw [this, split_nil] at he
  simpa using he
theorem Stand.fail {l : List UInt8} {s : Nat} {ls : List (List UInt8)} (h : Stand l s ls) (hs : s < l.length) (hE : frameErr (l.drop s) ≠ 0) : split l.length l = (ls, s, frameErr (l.drop s)) := by
  obtain ⟨f, hf, he⟩ := h
  have hn : l.drop s ≠ [] := fun e => by have := congrArg List.length e; simp at this; omega
  obtain ⟨f, rfl⟩ : ∃ g, f = g + 1 := ⟨f - 1, by simp at hf; omega⟩
  rw [split_err hn hE] at he
  simpa using he
theorem Stand.next {l : List UInt8} {s : Nat} {ls : List (List UInt8)} (h : Stand l s ls) (hs : s < l.length) (hE : frameErr (l.drop s) = 0) : Stand l (s + (word (l.drop s) + 8)) (ls ++ [pay (l.drop s)]) := by
  obtain ⟨f, hf, he⟩ := h
  have hn : l.drop s ≠ [] := fun e => by have := congrArg List.length e; simp at this; omega
  obtain ⟨f, rfl⟩ : ∃ g, f = g + 1 := ⟨f - 1, by simp at hf; omega⟩
  rw [split_ok hn hE, List.drop_drop] at he
  refine ⟨f, by simp at hf ⊢; omega, ?_⟩
  rw [he]
  simp [Nat.add_assoc]
end Go.Proofs.YtgjofpjijnbjeaaDoor
