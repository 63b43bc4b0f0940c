/- Slices of int: what they hold, made, and those that come in. -/
import Derived.Test.YtggelnlbdpdegaaDoorDraws
import Derived.Test.YtggelnlbdpdegaaDoorRow
import Derived.Test.YtggelnlbdpdegaaDoorLawB
import Derived.Deep.OwnRows
import Derived.Deep.QuietTactic
import Derived.BigQuiet
import Derived.RegionTactic
import Derived.ChangeAlike
namespace Go.Proofs.YtggelnlbdpdegaaDoor
open Go.ChangeShapes Go.WideShapes Go.ChangeAt Go.RowKit
set_option maxRecDepth 100000

/-- an integer as a value -/
def ival (z : Int) : Value := .int .i64 z
theorem i64_info : (Tryd.prog.info? 3).map (fun i => (i.zero, i.size, i.bytes)) = some (some (.int .i64 0), 1, 8) := by kernel_rfl
theorem cellsI : Tryd.prog.cellsOf 3 = 1 := by kernel_rfl
theorem bytesI : Tryd.prog.bytesOf 3 = 8 := by kernel_rfl
theorem elemI : Elem ival 27 3 8 := ⟨fun _ => rfl, Tryd.underlying27, by
  obtain ⟨i0, hi0, hz0, hz1, hz2⟩ := info_parts i64_info
  exact ⟨i0, _, hi0, hz0, hz1, hz2, rfl⟩⟩
abbrev Ints (w : World) (B : Nat) (A : Option Addr) (l : List Int) : Prop := Row ival w B A l
abbrev IOwn (w : World) (base : Nat) (A : Option Addr) (n c : Nat) (l : List Int) : Prop := ROwn ival 3 w base A n c l
/-- do all fit in an int? -/
def Fits64 (l : List Int) : Prop := ∀ z ∈ l, -9223372036854775808 ≤ z ∧ z ≤ 9223372036854775807
theorem iown_none (w : World) (base : Nat) : IOwn w base none 0 0 [] := ROwn.nil _ _ w base
theorem iown_lit1 (w : World) (z : Int) : IOwn (w.alloc (.cells #[.int .i64 z] 3)) w.heap.size (some ⟨w.heap.size, 0, none⟩) 1 1 [z] := by
  have h1 := ROwn.lit (f := ival) (e := 3) w w.heap.size [z] (Nat.le_refl _) (by simp [maxLen])
  exact h1
theorem run_make_ints (n : Nat) (hn : n ≤ 1000000) (w : World) :
    (Instr.makeSlice 27 (.int .i64 (n : Int)) (.int .i64 (n : Int))).run Tryd.prog w = .ok (.slice (some ⟨w.heap.size, 0, none⟩) n n) (w.alloc (.cells (madeCells #[.int .i64 0] n) 3)) :=
  run_make_row' 27 3 (.int .i64 0) 8 Tryd.underlying27 i64_info rfl .i64 .i64 n (by omega) (by omega) w
theorem own_ints (w : World) (n : Nat) (hn : n ≤ maxLen) : IOwn (w.alloc (.cells (madeCells #[.int .i64 0] n) 3)) w.heap.size (some ⟨w.heap.size, 0, none⟩) n n (List.replicate n 0) := by
  have h := World.ownsRow_lit (e := 3) (size := 1) w (madeCells #[.int .i64 0] n) n (Nat.le_refl _) hn (by rw [size_madeCells]; omega)
  rw [toList_madeCells_one] at h
  unfold IOwn ROwn
  rw [show (List.replicate n (0 : Int)).map ival = List.replicate n (.int .i64 0) from by simp [ival]]
  exact h

/-- A slice of integers that came in: its integers, and how it is read. -/
theorem open_intsI {H : Type} {enc : TypeId × Value → H} {W : World} {a : Option Addr} {len cap : Nat} {d : DataW H} {p : List MemPlace}
    (h : DataW.Trod enc Tryd.prog W 0 (fun _ => true) true 27 (.slice a len cap) d p) :
    ∃ l : List Int, l.length = len ∧ len ≤ cap ∧ Fits64 l ∧ Ints W W.heap.size a l ∧ (d = .nil ∧ len = 0 ∨ ∃ elems spare, d = .slice elems spare ∧ elems.length = len) := by
  obtain ⟨fuel, hf⟩ := h
  rcases open_ints Tryd.underlying27 Tryd.underlying3 cellsI hf with ⟨hcs, hx⟩ | ⟨x, l, c, zs, hcs, _, hl, hm, hz, hx, hcell, hwz⟩
  · simp [Value.cells] at hcs
    obtain ⟨rfl, rfl, rfl⟩ := hcs
    injection hx with hx1 hx2
    exact ⟨[], rfl, Nat.le_refl _, (fun _ h => by cases h), Row.nil _ _ _ _, .inl ⟨hx1, rfl⟩⟩
  · simp [Value.cells] at hcs
    obtain ⟨rfl, rfl, rfl⟩ := hcs
    injection hx with hx1 hx2
    simp only [if_true] at hz
    refine ⟨zs.take len, by simp; omega, hl, (fun z hz' => by have := bounds_i64 (hwz z (List.mem_of_mem_take hz')); omega), fun hn => ⟨x, rfl, ?_, fun i hi => ?_⟩, .inr ⟨_, _, hx1, by simp [lits]; omega⟩⟩
    · have h0 : 0 < zs.length := by
        rcases Nat.eq_zero_or_pos zs.length with h0 | h0
        · have : zs = [] := List.eq_nil_of_length_eq_zero h0
          subst this
          simp at hn
        · exact h0
      have hc0 := hcell 0 h0
      rcases Nat.lt_or_ge x.block W.heap.size with hlt' | hge
      · exact hlt'
      · have : (x.add 0).block = x.block := addr_add_block x 0
        simp [World.cell?, this, Array.getElem?_eq_none hge] at hc0
    · have hi' : i < zs.length := by simp at hi; omega
      rw [hcell i hi']
      simp only [List.getElem_take, ival]
      simp [List.getD_eq_getElem?_getD, List.getElem?_eq_getElem hi']
theorem reach_intsI {H : Type} {ts : List TypeId} {ds : List (DataW H)} {j len : Nat} {d : DataW H} (h : (DataW.weightsEach Tryd.prog ts ds).all (· ≤ reachBytes) = true)
    (ht : ts[j]? = some 27) (hd : ds[j]? = some d) (hv : d = .nil ∧ len = 0 ∨ ∃ elems spare, d = .slice elems spare ∧ elems.length = len) : 8 * len ≤ 140737488351232 := by
  rcases hv with ⟨_, rfl⟩ | ⟨elems, spare, rfl, rfl⟩
  · omega
  · have := sized_slice h ht hd Tryd.underlying27
    rw [bytesI] at this
    simp only [reachBytes] at this
    omega

end Go.Proofs.YtggelnlbdpdegaaDoor
