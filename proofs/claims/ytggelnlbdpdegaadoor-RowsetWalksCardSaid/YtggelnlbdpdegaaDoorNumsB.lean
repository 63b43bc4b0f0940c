/- Slices of uint64: what they hold, made, and those that come in. -/
import Derived.Test.YtggelnlbdpdegaaDoorDraws
import Derived.Test.YtggelnlbdpdegaaDoorRow
import Derived.Test.YtggelnlbdpdegaaDoorLawB
import Derived.Deep.OwnRows
import Derived.Deep.QuietTactic
import Derived.BigQuiet
import Derived.RegionTactic
import Derived.ChangeAlike
namespace Go.Proofs.YtggelnlbdpdegaaDoor
open Go.ChangeShapes Go.WideShapes Go.ChangeAt Go.RowKit
set_option maxRecDepth 100000

/-- a number as a value -/
def uval (x : UInt64) : Value := .int .u64 (x.toNat : Int)
theorem u64_info : (Tryd.prog.info? 41).map (fun i => (i.zero, i.size, i.bytes)) = some (some (.int .u64 0), 1, 8) := by kernel_rfl
theorem cells64 : Tryd.prog.cellsOf 41 = 1 := by kernel_rfl
theorem bytes64 : Tryd.prog.bytesOf 41 = 8 := by kernel_rfl
theorem elem64 : Elem uval 22 41 8 := ⟨fun _ => rfl, Tryd.underlying22, by
  obtain ⟨i0, hi0, hz0, hz1, hz2⟩ := info_parts u64_info
  exact ⟨i0, _, hi0, hz0, hz1, hz2, rfl⟩⟩
/-- A slice with address A holds the numbers l, in a block below B. -/
abbrev Nums (w : World) (B : Nat) (A : Option Addr) (l : List UInt64) : Prop := Row uval w B A l
/-- The slice at A, of n numbers, is l, in a block from 'base' on that nothing else holds. -/
abbrev NOwn (w : World) (base : Nat) (A : Option Addr) (n c : Nat) (l : List UInt64) : Prop := ROwn uval 41 w base A n c l


theorem run_make_nums (n : Nat) (hn : n ≤ 1000000) (w : World) :
    (Instr.makeSlice 22 (.int .i64 (n : Int)) (.int .i64 (n : Int))).run Tryd.prog w = .ok (.slice (some ⟨w.heap.size, 0, none⟩) n n) (w.alloc (.cells (madeCells #[.int .u64 0] n) 41)) :=
  run_make_row' 22 41 (.int .u64 0) 8 Tryd.underlying22 u64_info rfl .i64 .i64 n (by omega) (by omega) w
theorem own_nums (w : World) (n : Nat) (hn : n ≤ maxLen) : NOwn (w.alloc (.cells (madeCells #[.int .u64 0] n) 41)) w.heap.size (some ⟨w.heap.size, 0, none⟩) n n (List.replicate n 0) := by
  have h := World.ownsRow_lit (e := 41) (size := 1) w (madeCells #[.int .u64 0] n) n (Nat.le_refl _) hn (by rw [size_madeCells]; omega)
  rw [toList_madeCells_one] at h
  unfold NOwn ROwn
  rw [show (List.replicate n (0 : UInt64)).map uval = List.replicate n (.int .u64 0) from by simp [uval]]
  exact h

theorem num_of_int {z : Int} (h : (Lit.int .u64 z).wf = true) : ((UInt64.ofNat z.toNat).toNat : Int) = z := by
  have hb := bounds_u64 h
  rw [UInt64.toNat_ofNat']
  omega
/-- A slice of numbers that came in: its numbers, and how it is read. -/
theorem open_nums {H : Type} {enc : TypeId × Value → H} {W : World} {a : Option Addr} {len cap : Nat} {d : DataW H} {p : List MemPlace}
    (h : DataW.Trod enc Tryd.prog W 0 (fun _ => true) true 22 (.slice a len cap) d p) :
    ∃ l : List UInt64, l.length = len ∧ len ≤ cap ∧ Nums W W.heap.size a l ∧ (d = .nil ∧ len = 0 ∨ ∃ elems spare, d = .slice elems spare ∧ elems.length = len) := by
  obtain ⟨fuel, hf⟩ := h
  rcases open_ints Tryd.underlying22 Tryd.underlying41 cells64 hf with ⟨hcs, hx⟩ | ⟨x, l, c, zs, hcs, _, hl, hm, hz, hx, hcell, hwz⟩
  · simp [Value.cells] at hcs
    obtain ⟨rfl, rfl, rfl⟩ := hcs
    injection hx with hx1 hx2
    exact ⟨[], rfl, Nat.le_refl _, Row.nil _ _ _ _, .inl ⟨hx1, rfl⟩⟩
  · simp [Value.cells] at hcs
    obtain ⟨rfl, rfl, rfl⟩ := hcs
    injection hx with hx1 hx2
    simp only [if_true] at hz
    refine ⟨(zs.take len).map fun z => UInt64.ofNat z.toNat, by simp; omega, hl, fun hn => ⟨x, rfl, ?_, fun i hi => ?_⟩, .inr ⟨_, _, hx1, by simp [lits]; omega⟩⟩
    · have h0 : 0 < zs.length := by
        rcases Nat.eq_zero_or_pos zs.length with h0 | h0
        · have : zs = [] := List.eq_nil_of_length_eq_zero h0
          subst this
          simp at hn
        · exact h0
      have hc0 := hcell 0 h0
      rcases Nat.lt_or_ge x.block W.heap.size with hlt' | hge
      · exact hlt'
      · have : (x.add 0).block = x.block := addr_add_block x 0
        simp [World.cell?, this, Array.getElem?_eq_none hge] at hc0
    · have hi' : i < zs.length := by simp at hi; omega
      rw [hcell i hi']
      have hw := hwz zs[i] (List.getElem_mem hi')
      simp only [List.getElem_map, List.getElem_take, uval, num_of_int hw]
      simp [List.getD_eq_getElem?_getD, List.getElem?_eq_getElem hi']
/-- THE REACH: a slice of numbers that came in has fewer than 2^44 numbers. -/
theorem reach_nums {H : Type} {ts : List TypeId} {ds : List (DataW H)} {j len : Nat} {d : DataW H} (h : (DataW.weightsEach Tryd.prog ts ds).all (· ≤ reachBytes) = true)
    (ht : ts[j]? = some 22) (hd : ds[j]? = some d) (hv : d = .nil ∧ len = 0 ∨ ∃ elems spare, d = .slice elems spare ∧ elems.length = len) : 8 * len ≤ 140737488351232 := by
  rcases hv with ⟨_, rfl⟩ | ⟨elems, spare, rfl, rfl⟩
  · omega
  · have := sized_slice h ht hd Tryd.underlying22
    rw [bytes64] at this
    simp only [reachBytes] at this
    omega
end Go.Proofs.YtggelnlbdpdegaaDoor
