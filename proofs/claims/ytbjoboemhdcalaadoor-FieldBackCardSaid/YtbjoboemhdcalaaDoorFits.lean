/- A byte slice of one's own with room: made, and appended to in its place. -/
import Derived.Test.YtbjoboemhdcalaaDoorOwn
import Derived.Laws.OwnMore
import Derived.WalkSpells
import Derived.WalkLawsBesides
namespace Go.Proofs.YtbjoboemhdcalaaDoor
open Go.RowKit
set_option maxRecDepth 100000

theorem run_make_bytes (c : Nat) (hc : c ≤ 281474976710656) (u : World) :
    (Instr.makeSlice 31 (.int .i64 0) (.int .i64 (c : Int))).run Tryd.prog u = .ok (.slice (some ⟨u.heap.size, 0, none⟩) 0 c) (u.alloc (.cells (madeCells #[.int .u8 0] c) 5)) := by
  obtain ⟨i0, hi, hz0, hz1, hz2⟩ := info_parts byte_info
  have h := run_make (P := Tryd.prog) u 31 5 i0 (.int .u8 0) Tryd.underlying31 hi hz0 .i64 .i64 0 (c : Int) (by omega) (by omega) (by rw [hz2]; omega) (by omega)
  simpa [hz1, Value.cells] using h

theorem bval_ofNat (x : Nat) : bval (UInt8.ofNat x) = .int .u8 ((x : Int) % 256) := by
  unfold bval
  rw [UInt8.toNat_ofNat']
  exact congrArg _ (by omega)
theorem bval_small {x : Nat} (h : x < 256) : bval (UInt8.ofNat x) = .int .u8 (x : Int) := by
  rw [bval_ofNat]
  exact congrArg _ (by omega)
/-- a literal of one byte -/
theorem own_one (w : World) (b : UInt8) (z : Int) (h : bval b = .int .u8 z) : Own (w.alloc (.cells #[.int .u8 z] 5)) w.heap.size (some ⟨w.heap.size, 0, none⟩) 1 1 [b] := by
  have := own_lit w w.heap.size [b] (Nat.le_refl _) (by simp only [maxLen, List.length_singleton]; omega)
  simp only [bvals, List.map_cons, List.map_nil, h] at this
  exact this

set_option maxRecDepth 100000 in
theorem run_append_fit (w : World) (base : Nat) (ty : TypeId) (g n c : Nat) (l : List UInt8) (hown : Own w base (some ⟨g, 0, none⟩) n c l)
    (B : Nat) (A2 : Option Addr) (m c2 : Nat) (l2 : List UInt8) (hl2 : l2.length = m) (hb : Bytes w B A2 l2) (hroom : n + m ≤ c) :
    ∃ w', (Builtin.append_ #[31, 31] ty #[.slice (some ⟨g, 0, none⟩) n c, .slice A2 m c2]).run Tryd.prog w = .ok (.slice (some ⟨g, 0, none⟩) (n + m) c) w' ∧
      Own w' base (some ⟨g, 0, none⟩) (n + m) c (l ++ l2) ∧ w.grownBy w' (some g) := by
  obtain ⟨i0, hi0, hz0, hz1, hz2⟩ := info_parts byte_info
  rcases A2 with _ | ad
  · have hm : l2 = [] := by
      rcases Classical.em (l2 = []) with h | h
      · exact h
      · obtain ⟨_, h, _⟩ := hb h; cases h
    subst hm
    obtain rfl : 0 = m := by simpa using hl2
    refine ⟨w, ?_, by simpa using hown, World.grownBy.refl w _⟩
    rcases hown.2 with ⟨hv, rfl⟩ | ⟨g', cap, cur, hv, _, _, hnc, _⟩
    · cases hv
    · injection hv with h1 h2 h3
      subst h3
      simp [Builtin.append_, run_underlying Tryd.underlying31, sizeOf, typeInfo, hi0, Builtin.lenOf, Builtin.firstCells, hnc, storeCells]
  · obtain ⟨w', hrun, h2, h3⟩ := run_append_fits (P := Tryd.prog) w base 31 ty 5 i0 1 Tryd.underlying31 hi0 hz1 g n c (bvals l) hown
      ad m c2 (bvals l2) (by rw [bvals_length]; omega) hb.news (bvals_one l2) hroom
    rw [← bvals_append] at h2
    exact ⟨w', hrun, h2, h3⟩

theorem wpList_append_fit {w : World} {ops : Array Oper} {rest : List Oper} {o : Oper} {a : Act} {Q : Exit → Act → World → Prop} (hw : Region.wanted o (yielded ops a.tmps) = true) (s x : Operand)
    (ho : o.op = .call { callee := .builtin .append, args := #[s, x], argTypes := #[31, 31] })
    (base : Nat) (g n c : Nat) (l : List UInt8) (hs : a.eval s = .slice (some ⟨g, 0, none⟩) n c) (hown : Own w base (some ⟨g, 0, none⟩) n c l)
    (B : Nat) (A2 : Option Addr) (m c2 : Nat) (l2 : List UInt8) (hx : a.eval x = .slice A2 m c2) (hl2 : l2.length = m) (hb : Bytes w B A2 l2) (hroom : n + m ≤ c)
    (h : ∀ w', Own w' base (some ⟨g, 0, none⟩) (n + m) c (l ++ l2) → w.grownBy w' (some g) → wpList Tryd.prog ops Q rest (a.put o.dst (.slice (some ⟨g, 0, none⟩) (n + m) c)) w') :
    wpList Tryd.prog ops Q (o :: rest) a w := by
  obtain ⟨w', hrun, h2, h3⟩ := run_append_fit w base o.type g n c l hown B A2 m c2 l2 hl2 hb hroom
  refine wpList_step fun K hK => ?_
  rw [if_pos hw]
  unfold Oper.wp execOp
  simp only [ho, resolve, invoke, builtin, Sem.run_bind, Sem.run_pure, Result.andThen_ok, List.map_toArray, List.map_cons, List.map_nil, hs, hx, hrun]
  exact hK _ _ (h w' h2 h3)

/-- where it lies -/
theorem Own.block {w : World} {base g n c : Nat} {l : List UInt8} (h : Own w base (some ⟨g, 0, none⟩) n c l) : base ≤ g ∧ g < w.heap.size := h.lt rfl
theorem Own.cap {w : World} {base n c : Nat} {A : Option Addr} {l : List UInt8} (h : Own w base A n c l) : n ≤ c := by
  rcases h.2 with ⟨hv, hn⟩ | ⟨g', cap, cur, hv, _, _, hnc, _⟩
  · omega
  · injection hv with h1 h2 h3
    omega
theorem Own.size {w : World} {base g n c : Nat} {l : List UInt8} (h : Own w base (some ⟨g, 0, none⟩) n c l) : base ≤ w.heap.size := by have := h.block; omega
end Go.Proofs.YtbjoboemhdcalaaDoor
