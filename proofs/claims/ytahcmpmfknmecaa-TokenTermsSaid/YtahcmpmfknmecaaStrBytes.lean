/- A string made bytes. -/
import Derived.Test.YtahcmpmfknmecaaDraws
import Derived.Laws.IdiomStrings
namespace Go.Proofs.Ytahcmpmfknmecaa
open Go.RowKit
set_option maxRecDepth 100000

theorem run_bytes_of (s : List UInt8) (W : World) : ∃ c W', s.length ≤ c ∧ (convert 9 22 (.string ⟨s.toArray⟩)).run Try.prog W = .ok (.slice (some ⟨W.heap.size, 0, none⟩) s.length c) W' ∧
    Bytes W' W'.heap.size (some ⟨W.heap.size, 0, none⟩) s ∧ Below W.heap.size W W' := by
  have hsz : (⟨s.toArray⟩ : ByteArray).size = s.length := by rw [ByteArray.size, List.size_toArray]
  have h := run_bytes_of_string (P := Try.prog) W 9 22 5 ⟨s.toArray⟩ Try.underlying9 Try.underlying22 Try.underlying5
  rw [hsz] at h
  refine ⟨_, _, grownCap_ge W _ _ _, h, fun hn => ⟨_, rfl, by simp, fun i hi => ?_⟩, (Below.refl _ W).drew.alloc (Nat.le_refl _) _⟩
  have hc : ∀ (C : Array Value) (m : Nat × Nat), (W.drew.alloc (.cells C 5 m)).cell? ⟨W.heap.size, i, none⟩ = C[i]? := fun C m => by
    have : (W.drew.alloc (.cells C 5 m)).heap[W.heap.size]? = some (.cells C 5 m) := by
      show (W.heap.push (.cells C 5 m))[W.heap.size]? = _
      simp
    simp only [World.cell?, this]
    rfl
  rw [show (⟨W.heap.size, 0, none⟩ : Addr).add i = ⟨W.heap.size, i, none⟩ from by by_cases h : i = 0 <;> simp [Addr.add, h], hc]
  simp [bytesRow, Array.getElem?_append, hi, bval]
end Go.Proofs.Ytahcmpmfknmecaa
