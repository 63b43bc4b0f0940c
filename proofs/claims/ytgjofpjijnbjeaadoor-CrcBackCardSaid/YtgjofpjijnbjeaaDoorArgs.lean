/- A list of byte slices that came in. -/
import Derived.Test.YtgjofpjijnbjeaaDoorLaw
import Derived.Test.YtgjofpjijnbjeaaDoorListOwn
import Derived.Deep.Slices
namespace Go.Proofs.YtgjofpjijnbjeaaDoor
open Go.ChangeShapes Go.WideShapes Go.ChangeAt Go.RowKit

theorem cellsB : Tryd.prog.cellsOf 22 = 1 := by kernel_rfl

theorem cell_block {w : World} {p : Addr} {v : Value} (h : w.cell? p = some v) : p.block < w.heap.size := by
  rcases Nat.lt_or_ge p.block w.heap.size with hlt | hge
  · exact hlt
  · simp [World.cell?, Array.getElem?_eq_none hge] at h

/-- a cell that reads as a byte slice -/
theorem open_cell {H : Type} {enc : TypeId × Value → H} {W : World} {fuel : Nat} {cs : List Value} {x : DataW H × List MemPlace}
    (hf : DataW.trod enc Tryd.prog W 0 (fun _ => true) true fuel 22 cs = some x) :
    ∃ (a : Option Addr) (cap : Nat) (l : List UInt8), cs = [.slice a l.length cap] ∧ l.length ≤ 9223372036854775807 ∧ Bytes W W.heap.size a l := by
  rcases open_ints Tryd.underlying22 Tryd.underlying5 cells8 hf with ⟨hcs, hx⟩ | ⟨x, len, c, zs, hcs, _, hl, hm, hz, hx, hcell, hwz⟩
  · exact ⟨none, 0, [], hcs, by simp, Bytes.nil _ _ _⟩
  · simp only [if_true] at hz
    have hlen : (bytesOfInts (zs.take len)).length = len := by simp [bytesOfInts]; omega
    refine ⟨some x, c, bytesOfInts (zs.take len), by rw [hlen]; exact hcs, by rw [hlen]; simp only [maxLen] at hm; omega, fun hn => ⟨x, rfl, ?_, fun i hi => ?_⟩⟩
    · have h0 : 0 < zs.length := by
        rcases Nat.eq_zero_or_pos zs.length with h0 | h0
        · have : zs = [] := List.eq_nil_of_length_eq_zero h0
          subst this
          simp [bytesOfInts] at hn
        · exact h0
      have := cell_block (hcell 0 h0)
      rwa [addr_add_block] at this
    · have hi' : i < zs.length := by omega
      rw [hcell i hi']
      have hw := hwz zs[i] (List.getElem_mem hi')
      simp only [bytesOfInts, List.getElem_map, List.getElem_take, bval, byte_of_int hw]
      simp [List.getD_eq_getElem?_getD, List.getElem?_eq_getElem hi']

theorem cells_one {w : World} {base : Nat} {a : Addr} {cs : List Value} (h : w.cells? base a 1 = some cs) : ∃ v, cs = [v] ∧ w.cell? a = some v := by
  unfold World.cells? at h
  split at h
  · have e : List.range 1 = [0] := rfl
    rw [e, List.mapM_cons] at h
    simp only [List.mapM_nil, Option.bind_eq_bind, Option.bind_eq_some_iff, Option.pure_def, Option.some.injEq] at h
    obtain ⟨v, hv, _, rfl, rfl⟩ := h
    exact ⟨v, rfl, by simpa [Addr.add] using hv⟩
  · cases h

theorem open_lists {H : Type} {enc : TypeId × Value → H} {W : World} {a : Option Addr} {len cap : Nat} {d : DataW H} {p : List MemPlace}
    (h : DataW.Trod enc Tryd.prog W 0 (fun _ => true) true 35 (.slice a len cap) d p) :
    ∃ ls : List (List UInt8), ls.length = len ∧ len ≤ cap ∧ len ≤ 9223372036854775807 ∧ Lists W W.heap.size a ls ∧ ∀ i, (h : i < ls.length) → ls[i].length ≤ 9223372036854775807 := by
  obtain ⟨fuel, hf⟩ := h
  rcases DataW.trod_slice Tryd.underlying35 hf with ⟨hcs, hx⟩ | ⟨x, l, c, elems, rest, n, _, hcs, hx, hb, hl, hm, hlen, hel, _, _⟩
  · simp [Value.cells] at hcs
    obtain ⟨rfl, rfl, rfl⟩ := hcs
    exact ⟨[], rfl, Nat.le_refl _, by omega, Lists.nil _ _ _, fun i h => absurd h (by simp)⟩
  · simp [Value.cells] at hcs
    obtain ⟨rfl, rfl, rfl⟩ := hcs
    rw [cellsB] at hel
    have hat : ∀ i, i < len → ∃ l : List UInt8, ∃ (ai : Option Addr) (ci : Nat), W.cell? (x.add i) = some (.slice ai l.length ci) ∧ l.length ≤ 9223372036854775807 ∧ Bytes W W.heap.size ai l := fun i hi => by
      have he := hel i hi
      rw [List.getElem?_eq_getElem (by omega), Option.bind_eq_some_iff] at he
      obtain ⟨cs, hc1, hc2⟩ := he
      obtain ⟨v, rfl, hv⟩ := cells_one hc1
      obtain ⟨ai, ci, l, e1, e2, e3⟩ := open_cell hc2
      rw [Nat.mul_one] at hv
      injection e1 with e1
      exact ⟨l, ai, ci, by rw [hv, e1], e2, e3⟩
    obtain ⟨f, hfs⟩ := Deep.choose_lt hat
    refine ⟨(List.range len).map f, by simp, hl, by simp only [maxLen] at hm; omega, fun hn => ?_, fun i hi => ?_⟩
    · have h0 : 0 < len := by
        rcases Nat.eq_zero_or_pos len with h0 | h0
        · subst h0; simp at hn
        · exact h0
      obtain ⟨a0, c0, hc0, _⟩ := hfs 0 h0
      refine ⟨x, rfl, by have := cell_block hc0; rwa [addr_add_block] at this, fun i hi => ?_⟩
      have hi' : i < len := by simpa using hi
      obtain ⟨ai, ci, e1, e2, e3⟩ := hfs i hi'
      have e : ((List.range len).map f)[i] = f i := by simp
      rw [e]
      exact ⟨ai, ci, e1, e3⟩
    · have hi' : i < len := by simpa using hi
      obtain ⟨ai, ci, e1, e2, e3⟩ := hfs i hi'
      have e : ((List.range len).map f)[i] = f i := by simp
      rw [e]
      exact e2
end Go.Proofs.YtgjofpjijnbjeaaDoor
