/- A string made bytes. -/
import Derived.Test.YtbjoboemhdcalaaDoorDraws
import Derived.Laws.IdiomStrings
namespace Go.Proofs.YtbjoboemhdcalaaDoor
open Go.RowKit
set_option maxRecDepth 100000

theorem run_bytes_of (s : List UInt8) (W : World) : ∃ c W', s.length ≤ c ∧ (convert 9 31 (.string ⟨s.toArray⟩)).run Tryd.prog W = .ok (.slice (some ⟨W.heap.size, 0, none⟩) s.length c) W' ∧
    Bytes W' W'.heap.size (some ⟨W.heap.size, 0, none⟩) s ∧ Below W.heap.size W W' := by
  have hsz : (⟨s.toArray⟩ : ByteArray).size = s.length := by rw [ByteArray.size, List.size_toArray]
  have h := run_bytes_of_string (P := Tryd.prog) W 9 31 5 ⟨s.toArray⟩ Tryd.underlying9 Tryd.underlying31 Tryd.underlying5
  rw [hsz] at h
  refine ⟨_, _, grownCap_ge W _ _ _, h, fun hn => ⟨_, rfl, by simp, fun i hi => ?_⟩, (Below.refl _ W).drew.alloc (Nat.le_refl _) _⟩
  have hc : ∀ (C : Array Value) (m : Nat × Nat), (W.drew.alloc (.cells C 5 m)).cell? ⟨W.heap.size, i, none⟩ = C[i]? := fun C m => by
    have : (W.drew.alloc (.cells C 5 m)).heap[W.heap.size]? = some (.cells C 5 m) := by
      show (W.heap.push (.cells C 5 m))[W.heap.size]? = _
      simp
    simp only [World.cell?, this]
    rfl
  rw [show (⟨W.heap.size, 0, none⟩ : Addr).add i = ⟨W.heap.size, i, none⟩ from by by_cases h : i = 0 <;> simp [Addr.add, h], hc]
  simp [bytesRow, Array.getElem?_append, hi, bval]
end Go.Proofs.YtbjoboemhdcalaaDoor
