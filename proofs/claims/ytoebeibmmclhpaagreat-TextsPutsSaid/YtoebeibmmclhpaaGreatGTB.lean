/- Texts of several layers, one behind the other: PieceRow SymRefPie. -/
import Derived.Test.YtoebeibmmclhpaaGreatGTA
import Derived.Laws.OwnMore
import Derived.Lib.BufferOwn
import Derived.Deep.LoopGhost
import Derived.Deep.RegionHeld3
import Derived.Deep.QuietTactic
import Derived.BigQuiet
import Derived.Lib.Strings
/- Slices of the document's pieces, a text and how often it comes, of one's own. -/
namespace Go.Proofs.YtoebeibmmclhpaaGreat
open Go.RowKit
set_option maxRecDepth 100000
theorem piece_info : (Tryz.prog.info? 76).map (fun i => (i.zero, i.size, i.bytes)) = some (some (.agg #[.string ⟨#[]⟩, .int .i64 0]), 2, 24) := by kernel_rfl
/-- pieces as cells -/
def pcells (l : List (List UInt8 × Nat)) : List Value := l.flatMap fun p => [.string ⟨p.1.toArray⟩, .int .i64 (p.2 : Int)]
theorem pcells_length (l : List (List UInt8 × Nat)) : (pcells l).length = l.length * 2 := by
  induction l with
  | nil => rfl
  | cons p l ih =>
    show ([Value.string ⟨p.1.toArray⟩, .int .i64 (p.2 : Int)] ++ pcells l).length = _
    rw [List.length_append, ih, List.length_cons]
    simp
    omega
theorem pcells_append (a b : List (List UInt8 × Nat)) : pcells (a ++ b) = pcells a ++ pcells b := by simp [pcells]
theorem pcells_text (l : List (List UInt8 × Nat)) : ∀ (k : Nat) (h : k < l.length), (pcells l)[2 * k]? = some (.string ⟨l[k].1.toArray⟩) := by
  induction l with
  | nil => intro k h; cases h
  | cons p l ih =>
    intro k h
    show ([Value.string ⟨p.1.toArray⟩, .int .i64 (p.2 : Int)] ++ pcells l)[2 * k]? = _
    cases k with
    | zero => rfl
    | succ k =>
      rw [List.getElem?_append_right (by simp; omega)]
      have := ih k (by simpa using h)
      rw [show 2 * (k + 1) - [Value.string ⟨p.1.toArray⟩, .int .i64 (p.2 : Int)].length = 2 * k from by simp; omega, this]
      rfl
theorem pcells_times (l : List (List UInt8 × Nat)) : ∀ (k : Nat) (h : k < l.length), (pcells l)[2 * k + 1]? = some (.int .i64 (l[k].2 : Int)) := by
  induction l with
  | nil => intro k h; cases h
  | cons p l ih =>
    intro k h
    show ([Value.string ⟨p.1.toArray⟩, .int .i64 (p.2 : Int)] ++ pcells l)[2 * k + 1]? = _
    cases k with
    | zero => rfl
    | succ k =>
      rw [List.getElem?_append_right (by simp; omega)]
      have := ih k (by simpa using h)
      rw [show 2 * (k + 1) + 1 - [Value.string ⟨p.1.toArray⟩, .int .i64 (p.2 : Int)].length = 2 * k + 1 from by simp; omega, this]
      rfl
theorem pcells_set (l : List (List UInt8 × Nat)) : ∀ (k : Nat) (h : k < l.length) (t : Nat), (pcells l).set (2 * k + 1) (.int .i64 (t : Int)) = pcells (l.set k (l[k].1, t)) := by
  induction l with
  | nil => intro k h; cases h
  | cons p l ih =>
    intro k h t
    show ([Value.string ⟨p.1.toArray⟩, .int .i64 (p.2 : Int)] ++ pcells l).set (2 * k + 1) _ = _
    cases k with
    | zero => rfl
    | succ k =>
      have := ih k (by simpa using h) t
      rw [show 2 * (k + 1) + 1 = (2 * k + 1) + 1 + 1 from by omega]
      show .string ⟨p.1.toArray⟩ :: .int .i64 (p.2 : Int) :: (pcells l).set (2 * k + 1) _ = _
      rw [this]
      rfl
theorem pcells_one (l : List (List UInt8 × Nat)) : ∀ u ∈ pcells l, u.oneCell' = true := by
  intro u hu
  obtain ⟨p, _, hp⟩ := List.mem_flatMap.1 hu
  simp only [List.mem_cons, List.not_mem_nil, or_false] at hp
  rcases hp with rfl | rfl <;> rfl
/-- The slice at A, of n pieces, is l, in a block from 'base' on that nothing else holds. -/
def POwn (w : World) (base : Nat) (A : Option Addr) (n c : Nat) (l : List (List UInt8 × Nat)) : Prop := w.ownsRow base 76 2 (.slice A n c) n (pcells l)
namespace POwn
variable {w w' : World} {base : Nat} {A : Option Addr} {n c : Nat} {l : List (List UInt8 × Nat)}
theorem nil (w : World) (base : Nat) : POwn w base none 0 0 [] := World.ownsRow_nil w base _ 2
theorem len (h : POwn w base A n c l) : l.length = n := by have := h.1; rw [pcells_length] at this; omega
theorem lt (h : POwn w base A n c l) {k : Nat} (hk : blk A = some k) : base ≤ k ∧ k < w.heap.size := World.ownsRow.lt h k (by rw [ownBlock_eq]; exact hk)
theorem kept {row : Option Nat} (h : POwn w base A n c l) (hg : w.grownBy w' row) (hne : blk A = none ∨ blk A ≠ row) : POwn w' base A n c l :=
  World.ownsRow.kept h hg (by rw [ownBlock_eq]; exact hne)
theorem alloc (h : POwn w base A n c l) (o : Obj) : POwn (w.alloc o) base A n c l := World.ownsRow.alloc h o
theorem below (h : POwn w base A n c l) (hb : Below w.heap.size w w') : POwn w' base A n c l :=
  h.kept (row := none) ⟨hb.os, hb.tape, hb.output, hb.size, fun j hj _ => hb.block j hj⟩ (by cases A <;> simp [blk])
theorem drawn (h : POwn w base A n c l) (hd : Drawn w w') : POwn w' base A n c l := by
  obtain ⟨q, rfl⟩ := hd
  exact h
theorem at_ (h : POwn w base A n c l) (hn : 0 < n) : ∃ g, A = some ⟨g, 0, none⟩ ∧ base ≤ g ∧ g < w.heap.size := by
  obtain ⟨g, cap, hv, hb, hlt⟩ := World.ownsRow.form h hn
  injection hv with h1
  exact ⟨g, h1, hb, hlt⟩
theorem low {b' : Nat} (h : POwn w base A n c l) (hb : b' ≤ base) : POwn w b' A n c l := by
  refine ⟨h.1, ?_⟩
  rcases h.2 with h2 | ⟨g, cap, cur, h1, h2, r⟩
  · exact .inl h2
  · exact .inr ⟨g, cap, cur, h1, Nat.le_trans hb h2, r⟩
theorem text {g : Nat} (h : POwn w base (some ⟨g, 0, none⟩) n c l) {k : Nat} (hk : k < l.length) : w.cell? ⟨g, k * 2, none⟩ = some (.string ⟨l[k].1.toArray⟩) := by
  rw [World.ownsRow.cellAt h (k * 2) (by rw [← h.len]; omega), Nat.mul_comm]
  exact pcells_text l k hk
theorem times {g : Nat} (h : POwn w base (some ⟨g, 0, none⟩) n c l) {k : Nat} (hk : k < l.length) : w.cell? ⟨g, k * 2 + 1, none⟩ = some (.int .i64 (l[k].2 : Int)) := by
  rw [World.ownsRow.cellAt h (k * 2 + 1) (by rw [← h.len]; omega), Nat.mul_comm]
  exact pcells_times l k hk
theorem free {g : Nat} (h : POwn w base (some ⟨g, 0, none⟩) n c l) (k : Nat) : w.frozen? ⟨g, k, none⟩ = false := World.ownsRow.frozenAt h k
theorem store {g : Nat} (h : POwn w base (some ⟨g, 0, none⟩) n c l) {k : Nat} (hk : k < l.length) (t : Nat) : POwn (w.setCell ⟨g, k * 2 + 1, none⟩ (.int .i64 (t : Int))) base (some ⟨g, 0, none⟩) n c (l.set k (l[k].1, t)) := by
  have := (World.ownsRow.stored h (2 * k + 1) (.int .i64 (t : Int))).1
  rw [Nat.mul_comm]
  rw [pcells_set l k hk] at this
  exact this
theorem store_grown (w : World) (g i : Nat) (v : Value) : w.grownBy (w.setCell ⟨g, i, none⟩ v) (some g) := Lib.grownBy_setB (World.grownBy.refl w (some g)) i v
end POwn
theorem run_append_piece (w : World) (base : Nat) (ty : TypeId) (A : Option Addr) (n c : Nat) (l : List (List UInt8 × Nat)) (hown : POwn w base A n c l) (g2 : Nat) (p : List UInt8 × Nat)
    (ht : w.cell? ⟨g2, 0, none⟩ = some (.string ⟨p.1.toArray⟩)) (hn : w.cell? ⟨g2, 1, none⟩ = some (.int .i64 (p.2 : Int))) (hbytes : n < 1000000) (hbase : base ≤ w.heap.size) :
    ∃ A' c' w', (Builtin.append_ #[73, 73] ty #[.slice A n c, .slice (some ⟨g2, 0, none⟩) 1 1]).run Tryz.prog w = .ok (.slice A' (n + 1) c') w' ∧
      POwn w' base A' (n + 1) c' (l ++ [p]) ∧ w.grownBy w' (blk A) := by
  obtain ⟨i0, hi0, hz0, hz1, hz2⟩ := info_parts piece_info
  obtain ⟨v', w', hrun, h2, h3, _, h5⟩ := run_append_own_at (P := Tryz.prog) w base 73 ty 76 i0 _ 2 24 Tryz.underlying73 hi0 hz0 hz1 hz2 rfl (by omega) (.slice A n c) n (pcells l) hown
    ⟨g2, 0, none⟩ 1 1 (pcells [p]) rfl (fun j u hu => by
      rcases j with _ | _ | j
      · simp [pcells] at hu; rw [← hu]; simpa [Addr.add] using ht
      · simp [pcells] at hu; rw [← hu]; simpa [Addr.add] using hn
      · simp [pcells] at hu) (pcells_one _) (by simp only [maxLen]; omega) (by omega) hbase
  rw [← pcells_append] at h2
  rw [ownBlock_eq] at h3
  rcases h2.2 with ⟨rfl, h0⟩ | ⟨g, cap, cur, rfl, _⟩
  · omega
  · exact ⟨_, cap, w', hrun, h2, h3⟩
theorem wpList_append_piece {w : World} {ops : Array Oper} {rest : List Oper} {o : Oper} {a : Act} {Q : Exit → Act → World → Prop} (hw : Region.wanted o (yielded ops a.tmps) = true) (s x : Operand)
    (ho : o.op = .call { callee := .builtin .append, args := #[s, x], argTypes := #[73, 73] })
    (base : Nat) (A : Option Addr) (n c : Nat) (l : List (List UInt8 × Nat)) (hs : a.eval s = .slice A n c) (hown : POwn w base A n c l)
    (g2 : Nat) (p : List UInt8 × Nat) (hx : a.eval x = .slice (some ⟨g2, 0, none⟩) 1 1) (ht : w.cell? ⟨g2, 0, none⟩ = some (.string ⟨p.1.toArray⟩)) (hn : w.cell? ⟨g2, 1, none⟩ = some (.int .i64 (p.2 : Int))) (hbytes : n < 1000000) (hbase : base ≤ w.heap.size)
    (h : ∀ A' c' w', POwn w' base A' (n + 1) c' (l ++ [p]) → w.grownBy w' (blk A) → wpList Tryz.prog ops Q rest (a.put o.dst (.slice A' (n + 1) c')) w') :
    wpList Tryz.prog ops Q (o :: rest) a w := by
  obtain ⟨A', c', w', hrun, h2, h3⟩ := run_append_piece w base o.type A n c l hown g2 p ht hn hbytes hbase
  refine wpList_step fun K hK => ?_
  rw [if_pos hw]
  unfold Oper.wp execOp
  simp only [ho, resolve, invoke, builtin, Sem.run_bind, Sem.run_pure, Result.andThen_ok, List.map_toArray, List.map_cons, List.map_nil, hs, hx, hrun]
  exact hK _ _ (h A' c' w' h2 h3)
/-- what a piece is worth, by the document -/
def wort (p : List UInt8 × Nat) : Int := ((p.1.length : Int) - 1) * (p.2 : Int)
theorem wort_bound {p : List UInt8 × Nat} (h1 : p.1.length ≤ 8) (h2 : p.2 ≤ 7168) : -7168 ≤ wort p ∧ wort p ≤ 50176 := by
  unfold wort
  have : p.1.length = 0 ∨ p.1.length = 1 ∨ p.1.length = 2 ∨ p.1.length = 3 ∨ p.1.length = 4 ∨ p.1.length = 5 ∨ p.1.length = 6 ∨ p.1.length = 7 ∨ p.1.length = 8 := by omega
  rcases this with h | h | h | h | h | h | h | h | h <;> rw [h] <;> omega
theorem worth_any (s : List UInt8) (t : Nat) (w : World) (h1 : s.length ≤ 8) (h2 : t ≤ 7168) :
    Calls Tryz.prog 51 #[.agg #[.string ⟨s.toArray⟩, .int .i64 (t : Int)]] w fun e w' => e = .returned (.int .i64 (wort (s, t))) ∧ Below w.heap.size w w' := by
  have hb := wort_bound (p := (s, t)) h1 h2
  have hv : wort (s, t) = ((s.length : Int) - 1) * (t : Int) := rfl
  have hb1 : -7168 ≤ ((s.length : Int) - 1) * (t : Int) := by rw [← hv]; exact hb.1
  have hb2 : ((s.length : Int) - 1) * (t : Int) ≤ 50176 := by rw [← hv]; exact hb.2
  have Hv := Lib.hid hv
  clear hv hb
  go_enter Tryz.func51, Tryz.ntmps51
  go_wp2
  go_ret
  exact ⟨by rw [Hv.out]; rfl, (Below.refl _ _).alloc (Nat.le_refl _) _⟩
end Go.Proofs.YtoebeibmmclhpaaGreat

/- The document's Pieces. -/
namespace Go.Proofs.YtoebeibmmclhpaaGreat
open Go.RowKit
set_option maxRecDepth 100000
/-- a piece of a text -/
theorem run_cut_text (y : List UInt8) (a b : Nat) (h1 : a ≤ b) (h2 : b ≤ y.length) (W : World) :
    (Instr.slice 9 (.string ⟨y.toArray⟩) (some (.int .i64 (a : Int))) (some (.int .i64 (b : Int))) none).run Tryz.prog W = .ok (.string ⟨((y.drop a).take (b - a)).toArray⟩) W := by
  have hsz : (⟨y.toArray⟩ : ByteArray).size = y.length := by rw [ByteArray.size, List.size_toArray]
  rw [run_slice_string (P := Tryz.prog) (w := W) 9 ⟨y.toArray⟩ .i64 .i64 (a : Int) (b : Int) Tryz.underlying9 (by omega) (by omega) (by rw [hsz]; omega)]
  have e := Lib.extract_data ⟨y.toArray⟩ a b
  congr 2
  have hx : ∀ s t : ByteArray, s.data.toList = t.data.toList → s = t := fun s t h => by
    rcases s with ⟨⟨s⟩⟩
    rcases t with ⟨⟨t⟩⟩
    simpa using h
  refine hx _ _ ?_
  rw [Int.toNat_natCast, Int.toNat_natCast, e]
namespace Sym
/-- a list tells of each piece once how often it comes -/
def Tells (l : List (List UInt8 × Nat)) (P : List (List UInt8)) : Prop := (l.map (·.1)).Nodup ∧ (∀ s, s ∈ l.map (·.1) ↔ s ∈ P) ∧ ∀ p ∈ l, p.2 = P.count p.1
theorem tells_nil : Tells [] [] := ⟨List.nodup_nil, fun _ => Iff.rfl, fun _ h => by cases h⟩
theorem map_set_fst (l : List (List UInt8 × Nat)) (k : Nat) (h : k < l.length) (t : Nat) : (l.set k (l[k].1, t)).map (·.1) = l.map (·.1) := by
  apply List.ext_getElem
  · simp
  · intro i h1 h2
    simp only [List.getElem_map, List.getElem_set]
    split
    · rename_i e; subst e; rfl
    · rfl
theorem count_snoc (P : List (List UInt8)) (p s : List UInt8) : (P ++ [p]).count s = P.count s + if p = s then 1 else 0 := by
  rw [List.count_append, List.count_singleton]
  by_cases h : p = s
  · subst h; simp
  · simp [h]
theorem tells_found {l : List (List UInt8 × Nat)} {P : List (List UInt8)} {p : List UInt8} {k : Nat} (hk : k < l.length) (h : Tells l P) (e : l[k].1 = p) : Tells (l.set k (l[k].1, l[k].2 + 1)) (P ++ [p]) := by
  obtain ⟨h1, h2, h3⟩ := h
  have hm : p ∈ P := (h2 p).1 (by rw [← e]; exact List.mem_map_of_mem (List.getElem_mem hk))
  refine ⟨by rw [map_set_fst]; exact h1, fun s => ?_, fun q hq => ?_⟩
  · rw [map_set_fst, h2, List.mem_append, List.mem_singleton]
    exact ⟨.inl, fun h => h.elim id (fun e => e ▸ hm)⟩
  · obtain ⟨i, hi, rfl⟩ := List.mem_iff_getElem.1 hq
    rw [List.length_set] at hi
    rw [List.getElem_set]
    by_cases hik : k = i
    · subst hik
      rw [if_pos rfl, count_snoc, if_pos e.symm, h3 _ (List.getElem_mem hk)]
    · rw [if_neg hik, count_snoc, if_neg, h3 _ (List.getElem_mem hi)]
      · rfl
      · rw [← e]
        intro e2
        have := (List.getElem_inj (h₀ := by simpa using hk) (h₁ := by simpa using hi) h1).1 (by simpa using e2)
        exact hik this
theorem tells_new {l : List (List UInt8 × Nat)} {P : List (List UInt8)} {p : List UInt8} (h : Tells l P) (hp : p ∉ l.map (·.1)) : Tells (l ++ [(p, 1)]) (P ++ [p]) := by
  obtain ⟨h1, h2, h3⟩ := h
  have hm : p ∉ P := fun h => hp ((h2 p).2 h)
  refine ⟨?_, fun s => ?_, fun q hq => ?_⟩
  · rw [List.map_append, List.nodup_append]
    refine ⟨h1, by simp, fun a ha b hb => ?_⟩
    simp only [List.map_cons, List.map_nil, List.mem_singleton] at hb
    subst hb
    rintro rfl
    exact hp ha
  · rw [List.map_append, List.mem_append, List.mem_append, h2]
    simp
  · rcases List.mem_append.1 hq with hq' | hq'
    · rw [count_snoc, if_neg, h3 q hq']
      · rfl
      · rintro rfl
        exact hp (List.mem_map_of_mem hq')
    · rw [List.mem_singleton.1 hq', count_snoc, if_pos rfl, List.count_eq_zero_of_not_mem hm]
theorem nodup_le : ∀ {ss P : List (List UInt8)}, ss.Nodup → (∀ s ∈ ss, s ∈ P) → ss.length ≤ P.length
  | [], _, _, _ => Nat.zero_le _
  | s :: r, P, hn, hs => by
    rw [List.nodup_cons] at hn
    have hm := hs s (by simp)
    have h := nodup_le (P := P.erase s) hn.2 (fun u hu => (List.mem_erase_of_ne (fun e => hn.1 (by rw [← e]; exact hu))).2 (hs u (by simp [hu])))
    rw [List.length_erase_of_mem hm] at h
    have := List.length_pos_of_mem hm
    rw [List.length_cons]
    omega
theorem tells_len {l : List (List UInt8 × Nat)} {P : List (List UInt8)} (h : Tells l P) : l.length ≤ P.length := by
  have := nodup_le h.1 (fun s hs => (h.2.1 s).1 hs)
  simpa using this
end Sym
set_option maxHeartbeats 8000000 in
theorem refPieces_any (A : Option Addr) (n cap B : Nat) (ss : List (List UInt8)) (w : World) (hl : ss.length = n) (hn : n ≤ 140737488355328) (hs : ∀ s ∈ ss, s.length ≤ 140737488351232) (h1 : Samples w B A ss) (hB : B ≤ w.heap.size) :
    Calls Tryz.prog 50 #[.slice A n cap] w fun e w' => ∃ A' c l, e = .returned (.slice A' l.length c) ∧ POwn w' w.heap.size A' l.length c l ∧ Sym.Tells l (Sym.pieces ss 1024) ∧ Below w.heap.size w w' := by
  have Hl := Lib.hid hl; clear hl
  have Hs := Lib.hid hs; clear hs
  have h1' := h1.wide hB
  clear h1
  obtain ⟨M, hM⟩ : ∃ M, M = w.heap.size := ⟨_, rfl⟩
  rw [← hM] at h1' ⊢
  have HM := Lib.hid hM
  clear hM
  go_enter Tryz.func50, Tryz.ntmps50
  go_wp2
  go_loopg [3, 4, 5] n (fun g lv leftv i wx => ∃ (k : Nat) (A2 : Option Addr) (c2 : Nat) (l : List (List UInt8 × Nat)), k + g = n ∧ i = .int .i64 (k : Int) ∧ leftv = .int .i64 ((1024 - Sym.tot (ss.take k) : Nat) : Int) ∧ lv = .slice A2 l.length c2 ∧ POwn wx M A2 l.length c2 l ∧ Sym.Tells l (Sym.pieces (ss.take k) 1024) ∧ Below M w wx ∧ M ≤ wx.heap.size)
  case atStart => exact ⟨0, none, 0, [], by omega, rfl, rfl, rfl, POwn.nil _ _, Sym.tells_nil, Below.refl _ _, by rw [HM.out]; exact Nat.le_refl _⟩
  case round =>
    obtain ⟨k, A2, c2, l, hkg, rfl, rfl, rfl, hown, htl, hbel, hszr⟩ := hrel
    by_cases hgo : k < n ∧ 0 < 1024 - Sym.tot (ss.take k)
    · obtain ⟨hkn, hL0⟩ := hgo
      have hkn' : (k : Int) < (n : Int) := by omega
      have hk0 : (0 : Int) ≤ (k : Int) := by omega
      have hk' : k < ss.length := by rw [Hl.out]; exact hkn
      obtain ⟨ad, Ai, ci, rfl, hadb, hci, hcell, hbi⟩ := (h1'.below hbel).at_ hk'
      have hsl := Hs.out _ (List.getElem_mem hk')
      have hstep := Sym.pieces_snoc (ss.take k) ss[k] 1024
      rw [← List.take_succ_eq_append_getElem hk'] at hstep
      have htot : Sym.tot (ss.take (k + 1)) = Sym.tot (ss.take k) + ss[k].length := by
        rw [List.take_succ_eq_append_getElem hk', Sym.tot_append]
        simp [Sym.tot]
      have HST := Lib.hid hstep
      have HTT : Hid (1024 - Sym.tot (ss.take (k + 1)) = 1024 - Sym.tot (ss.take k) - ss[k].length) := Lib.hid (by omega)
      clear hstep htot
      have hPl := Sym.pieces_length (ss.take k) 1024
      have hL : 1024 - Sym.tot (ss.take k) ≤ 1024 := by omega
      generalize Sym.pieces (ss.take k) 1024 = P at *
      generalize 1024 - Sym.tot (ss.take k) = L at *
      have hml : (ss[k].take L).length = min ss[k].length L := by rw [List.length_take]; omega
      have hbt := hbi.take L
      generalize hx : ss[k] = x at *
      clear hx hbi
      obtain ⟨G, rfl⟩ : ∃ G, G = gk := ⟨_, rfl⟩
      obtain ⟨wx, rfl⟩ : ∃ wx, wx = wr := ⟨_, rfl⟩
      obtain ⟨mm, hmm⟩ : ∃ mm, mm = min x.length L := ⟨_, rfl⟩
      rw [← hmm] at hml
      have hmm1 : mm ≤ 1024 := by omega
      have HLM : Hid (((L : Int) - ((x.take L).length : Int)) = ((L - x.length : Nat) : Int)) := Lib.hid (by omega)
      have hyl : (x.take L).length ≤ 1024 := by omega
      have hmci : mm ≤ ci := by omega
      have hLmm : mm ≤ L := by omega
      have hyL : (x.take L).length ≤ L := by omega
      have hcase : (x.length < L ∧ x.length = mm) ∨ (¬ (x.length < L) ∧ L = mm) := by omega
      have hcutA : x.length = mm → ∀ W : World, (Instr.slice 22 (.slice Ai x.length ci) none (some (.int .i64 (x.length : Int))) none).run Tryz.prog W = .ok (.slice Ai mm ci) W := fun e W => by rw [run_cut_h Ai x.length ci x.length hci W, e]
      have hcutB : L = mm → ∀ W : World, (Instr.slice 22 (.slice Ai x.length ci) none (some (.int .i64 (L : Int))) none).run Tryz.prog W = .ok (.slice Ai mm ci) W := fun e W => by rw [run_cut_h Ai x.length ci L (by omega) W, e]
      have hcv := fun q => run_string_of (hbt.drewN q) ci
      rw [hml] at hcv
      generalize x.take L = y at *
      have Hml := Lib.hid hml
      have HLM2 : Hid ((1024 - Sym.tot (ss.take (k + 1)) : Nat) = L - x.length) := Lib.hid HTT.out
      have hL0' : (0 : Int) < (L : Int) := by omega
      clear hmm hml HTT hbt
      rcases hcase with ⟨hxL, hmeq⟩ | ⟨hxL, hmeq⟩
      all_goals
        first | (have hcut := hcutA hmeq) | (have hcut := hcutB hmeq)
        first | (have hd1 : decide (x.length < L) = true := decide_eq_true hxL) | (have hd1 : decide (x.length < L) = false := decide_eq_false hxL)
        clear hcutA hcutB hmeq
        go_wp2_with fail
        go_quiet (fail)
        go_wp2
        go_loopg [3, 7] y.length (fun g2 lv i2 wy => ∃ (q : Nat) (A3 : Option Addr) (c3 : Nat) (l3 : List (List UInt8 × Nat)), q + g2 = y.length ∧ i2 = .int .i64 (q : Int) ∧ lv = .slice A3 l3.length c3 ∧ POwn wy M A3 l3.length c3 l3 ∧ Sym.Tells l3 (P ++ Sym.occTo y q) ∧ Below M w wy ∧ M ≤ wy.heap.size)
        case atStart => exact ⟨0, A2, c2, l, by omega, rfl, rfl, hown, by rw [Sym.occTo, List.append_nil]; exact htl, below_drewN hbel _, hszr⟩
        case round =>
          clear hown htl hbel hszr hcell hcut hcv
          obtain ⟨q, A3, c3, l3, hqg, rfl, rfl, hown, htl, hbel, hszr⟩ := hrel
          obtain ⟨G2, rfl⟩ : ∃ G2, G2 = gk := ⟨_, rfl⟩
          obtain ⟨wq, rfl⟩ : ∃ wq, wq = wr := ⟨_, rfl⟩
          by_cases hqm : q < y.length
          · have hqm' : (q : Int) < (y.length : Int) := by omega
            have HNA : Hid (Sym.nAt y q = min 8 (y.length - q) - 1) := Lib.hid rfl
            have hol := Sym.occTo_length y q
            have HOS := Lib.hid (Sym.occTo_step y q)
            generalize Sym.occTo y q = O at *
            go_wp2
            go_loopg [3, 8] (min 8 (y.length - q) - 1) (fun g3 lv nv wz => ∃ (j : Nat) (A4 : Option Addr) (c4 : Nat) (l4 : List (List UInt8 × Nat)), j + g3 = min 8 (y.length - q) - 1 ∧ nv = .int .i64 ((j : Int) + 2) ∧ lv = .slice A4 l4.length c4 ∧ POwn wz M A4 l4.length c4 l4 ∧ Sym.Tells l4 (P ++ (O ++ Sym.posK y q j)) ∧ Below M w wz ∧ M ≤ wz.heap.size)
            case atStart => exact ⟨0, A3, c3, l3, by omega, rfl, rfl, hown, by rw [Sym.posK_zero, List.append_nil]; exact htl, hbel, hszr⟩
            case round =>
              clear hown htl hbel hszr
              obtain ⟨j, A4, c4, l4, hjg, rfl, rfl, hown, htl, hbel, hszr⟩ := hrel
              obtain ⟨G3, rfl⟩ : ∃ G3, G3 = gk := ⟨_, rfl⟩
              obtain ⟨wj, rfl⟩ : ∃ wj, wj = wr := ⟨_, rfl⟩
              by_cases hj : j < min 8 (y.length - q) - 1
              · have hj8 : (j : Int) + 2 ≤ 8 := by omega
                have hjm : (j : Int) + 2 ≤ (y.length : Int) - (q : Int) := by omega
                have hlen4 := Sym.tells_len htl
                rw [List.length_append, List.length_append, Sym.posK_length] at hlen4
                have hl4 : l4.length ≤ 100000 := by omega
                have hsub := run_cut_text y q (q + (j + 2)) (by omega) (by omega)
                rw [show q + (j + 2) - q = j + 2 from by omega, show ((q + (j + 2) : Nat) : Int) = (q : Int) + ((j : Int) + 2) from by omega] at hsub
                have HPS := Lib.hid (Sym.posK_step y q j)
                have HF := Lib.hid fun r hr e => Sym.tells_found (k := r) (p := (y.drop q).take (j + 2)) hr htl e
                have HW := Lib.hid (Sym.tells_new (p := (y.drop q).take (j + 2)) htl)
                rw [List.append_assoc, List.append_assoc, ← HPS.out] at HF HW
                generalize (y.drop q).take (j + 2) = p at *
                go_wp2
                go_loopg [9, 10] l4.length (fun g4 fv kv wz => ∃ r : Nat, r + g4 = l4.length ∧ fv = .bool false ∧ kv = .int .i64 (r : Int) ∧ p ∉ (l4.take r).map (·.1) ∧ Drawn wj wz)
                case atStart => exact ⟨0, by omega, rfl, rfl, by simp, Drawn.refl _⟩
                case round =>
                  obtain ⟨r, hrg, rfl, rfl, hnot, hd⟩ := hrel
                  have hown4 := hown.drawn hd
                  have hszd : M ≤ wr.heap.size := by obtain ⟨_, rfl⟩ := hd; exact hszr
                  have hbeld := hbel.trans (hd.below M)
                  by_cases hr : r < l4.length
                  · have hr' : (r : Int) < (l4.length : Int) := by omega
                    have hr0 : (0 : Int) ≤ (r : Int) := by omega
                    obtain ⟨g, rfl, hgM, hgl⟩ := hown4.at_ (by omega)
                    have hct := hown4.text hr
                    have hcn := hown4.times hr
                    have hfr := hown4.free (r * 2 + 1)
                    have htb : l4[r].2 ≤ 100000 := by
                      have e := htl.2.2 _ (List.getElem_mem hr)
                      have := List.count_le_length (a := l4[r].1) (l := P ++ (O ++ Sym.posK y q j))
                      rw [List.length_append, List.length_append, Sym.posK_length] at this
                      omega
                    by_cases hp : l4[r].1 = p
                    · have hpp : (l4[r].1 == p) = true := by simpa using hp
                      have HN := Lib.hid (HF.out r hr hp)
                      have hst := fun (W : World) (hW : POwn W M (some ⟨g, 0, none⟩) l4.length c4 l4) => hW.store hr (l4[r].2 + 1)
                      have Hset := Lib.hid (show (l4.set r (l4[r].1, l4[r].2 + 1)).length = l4.length from by simp)
                      generalize l4.set r (l4[r].1, l4[r].2 + 1) = l5 at *
                      generalize l4[r].2 = tr at *
                      generalize l4[r].1 = tx at *
                      rw [show ((tr + 1 : Nat) : Int) = (tr : Int) + 1 from by omega] at hst
                      have Hst := Lib.hid hst
                      clear hst hp
                      go_wp2_with fail
                      go_quiet (fail)
                      go_wp2
                      rename_i nq
                      have hown5 : POwn ((wr.drewN nq).setCell ⟨g, r * 2 + 1, none⟩ (.int .i64 ((tr : Int) + 1))) M (some ⟨g, 0, none⟩) l4.length c4 l5 := Hst.out _ hown4
                      have hbel5 : Below M w ((wr.drewN nq).setCell ⟨g, r * 2 + 1, none⟩ (.int .i64 ((tr : Int) + 1))) := (below_drewN hbeld nq).grown (POwn.store_grown _ g _ _) hszd (fun z hz => by cases hz; exact hgM)
                      have hsz5 : M ≤ ((wr.drewN nq).setCell ⟨g, r * 2 + 1, none⟩ (.int .i64 ((tr : Int) + 1))).heap.size := by rw [show ((wr.drewN nq).setCell ⟨g, r * 2 + 1, none⟩ (.int .i64 ((tr : Int) + 1))).heap.size = wr.heap.size from by simp]; exact hszd
                      go_roundg (min 8 (y.length - q) - 1 - (j + 1))
                      case measure => omega
                      case rel => exact ⟨j + 1, _, c4, l5, by omega, congrArg (Value.int IntKind.i64) (by omega), by rw [Hset.out], by rw [Hset.out]; exact hown5, HN.out, hbel5, hsz5⟩
                    · have hpp : (l4[r].1 == p) = false := by simpa using hp
                      have hts := Lib.hid (List.take_succ_eq_append_getElem hr)
                      have hnot2 : p ∉ (l4.take (r + 1)).map (·.1) := by
                        rw [hts.out, List.map_append, List.mem_append]
                        simp only [List.map_cons, List.map_nil, List.mem_singleton]
                        rintro (h | h)
                        · exact hnot h
                        · exact hp h.symm
                      generalize l4[r].2 = tr at *
                      generalize l4[r].1 = tx at *
                      clear hnot hp
                      go_wp2_with fail
                      go_quiet (fail)
                      go_wp2
                      go_roundg (l4.length - (r + 1))
                      case measure => omega
                      case rel => exact ⟨r + 1, by omega, rfl, by go_num, hnot2, hd.drewN _⟩
                  · have hr' : ¬ ((r : Int) < (l4.length : Int)) := by omega
                    have hnew : p ∉ l4.map (·.1) := by rwa [List.take_of_length_le (by omega)] at hnot
                    have HN := Lib.hid (HW.out hnew)
                    have hoa := hown4.alloc (.cells #[.string ⟨p.toArray⟩, .int .i64 1] 76)
                    have hca : (wr.alloc (.cells #[.string ⟨p.toArray⟩, .int .i64 1] 76)).cell? ⟨wr.heap.size, 0, none⟩ = some (.string ⟨p.toArray⟩) := by rw [World.cell?_alloc_at _ _ _ _ rfl]; rfl
                    have hcb : (wr.alloc (.cells #[.string ⟨p.toArray⟩, .int .i64 1] 76)).cell? ⟨wr.heap.size, 1, none⟩ = some (.int .i64 1) := by rw [World.cell?_alloc_at _ _ _ _ rfl]; rfl
                    have hba : Below M w (wr.alloc (.cells #[.string ⟨p.toArray⟩, .int .i64 1] 76)) := hbeld.alloc hszd _
                    have hsza : M ≤ (wr.alloc (.cells #[.string ⟨p.toArray⟩, .int .i64 1] 76)).heap.size := by simp; omega
                    clear hnot hnew hown4 hbeld hd
                    go_wp2_with (at_builtin; refine wpList_append_piece rfl (.tmp 86) (.tmp 94) rfl M A4 l4.length c4 l4 rfl hoa wr.heap.size (p, 1) rfl hca hcb (by omega) hsza ?_; intro A6 c6 w6 ho6 hg6)
                    have hbel6 : Below M w w6 := hba.grown hg6 hsza (fun z hz => (hoa.lt hz).1)
                    have hsz6 : M ≤ w6.heap.size := Nat.le_trans hsza hg6.size
                    have Hl6 := Lib.hid (show (l4 ++ [(p, 1)]).length = l4.length + 1 from by simp)
                    clear hg6 hoa hba hca hcb
                    go_roundg (min 8 (y.length - q) - 1 - (j + 1))
                    case measure => omega
                    case rel => exact ⟨j + 1, A6, c6, l4 ++ [(p, 1)], by omega, congrArg (Value.int IntKind.i64) (by omega), by rw [Hl6.out], by rw [Hl6.out]; exact ho6, HN.out, hbel6, hsz6⟩
              · have hjn : j = Sym.nAt y q := by rw [HNA.out]; omega
                rw [hjn, ← HOS.out] at htl
                by_cases hj8 : (j : Int) + 2 ≤ 8
                · have hjm : ¬ ((j : Int) + 2 ≤ (y.length : Int) - (q : Int)) := by omega
                  clear hjn
                  go_wp2
                  go_roundg (y.length - (q + 1))
                  case measure => omega
                  case rel => exact ⟨q + 1, A4, c4, l4, by omega, by go_num, rfl, hown, htl, hbel, hszr⟩
                · clear hjn
                  go_wp2
                  go_roundg (y.length - (q + 1))
                  case measure => omega
                  case rel => exact ⟨q + 1, A4, c4, l4, by omega, by go_num, rfl, hown, htl, hbel, hszr⟩
          · have hqm' : ¬ ((q : Int) < (y.length : Int)) := by omega
            have hq : q = y.length := by omega
            rw [hq] at htl
            have htl' : Sym.Tells l3 (Sym.pieces (ss.take (k + 1)) 1024) := by rw [HST.out]; exact htl
            clear hq htl
            go_wp2
            go_roundg (n - (k + 1))
            case measure => omega
            case rel => exact ⟨k + 1, A3, c3, l3, by omega, by go_num, congrArg (Value.int IntKind.i64) (by rw [HLM2.out, ← HLM.out]), rfl, hown, htl', hbel, hszr⟩
    · have HE : Hid (Sym.pieces ss 1024 = Sym.pieces (ss.take k) 1024) := by
        by_cases hkn : k < n
        · have h0 : 1024 - Sym.tot (ss.take k) = 0 := by omega
          have e := Sym.pieces_append (ss.take k) (ss.drop k) 1024
          rw [h0, Sym.pieces_zero, List.append_nil, List.take_append_drop] at e
          exact Lib.hid e
        · exact Lib.hid (by rw [List.take_of_length_le (by rw [Hl.out]; omega)])
      generalize 1024 - Sym.tot (ss.take k) = L at *
      by_cases hkn : k < n
      · have hkn' : (k : Int) < (n : Int) := by omega
        have hL0 : ¬ ((0 : Int) < (L : Int)) := by omega
        go_wp2
        go_ret
        exact ⟨A2, c2, l, rfl, hown, by rw [HE.out]; exact htl, hbel⟩
      · have hkn' : ¬ ((k : Int) < (n : Int)) := by omega
        go_wp2
        go_ret
        exact ⟨A2, c2, l, rfl, hown, by rw [HE.out]; exact htl, hbel⟩
end Go.Proofs.YtoebeibmmclhpaaGreat
