/- A set that comes in as an argument. -/
import Derived.Test.YtggelnlbdpdegaaDoorRstLaw
import Derived.Test.YtggelnlbdpdegaaDoorLawB
import Derived.Lib.SmallJoins
import Derived.ChangeMaps5
namespace Go.Proofs.YtggelnlbdpdegaaDoor
open Go.ChangeShapes Go.WideShapes Go.ChangeAt Go.RowKit Go.ChangeMaps Go.Joins Go.Deep
set_option maxRecDepth 100000

theorem hone_rows : oneCellFields Tryd.prog #[⟨ "N", 3, 0, false, "", "", 0⟩, ⟨ "Words", 22, 1, false, "", "", 8⟩] = true := by kernel_rfl
theorem cells_rows : Tryd.prog.cellsOf 24 = 2 := by kernel_rfl
/-- A set that came in: its number, its words, and how much it holds. -/
theorem open_rows {H : Type} {enc : TypeId × Value → H} {W : World} {b0 : Nat} {v : Value} {d : DataW H} {p : List MemPlace}
    (hv : Value.okWide Tryd.prog W .any b0 24 v) (h : DataW.Trod enc Tryd.prog W 0 (fun _ => true) true 24 v d p) :
    ∃ (N : Int) (a : Option Addr) (n c : Nat) (l : List UInt64), v = rval N a n c ∧ -9223372036854775808 ≤ N ∧ N ≤ 9223372036854775807 ∧ l.length = n ∧ n ≤ c ∧ Nums W W.heap.size a l ∧
      ∃ d1, d = .agg [.lit (.int .i64 N), d1] ∧ (d1 = .nil ∧ n = 0 ∨ ∃ elems spare, d1 = .slice elems spare ∧ elems.length = n) := by
  obtain ⟨v0, v1, y0, y1, q, rfl, rfl, rfl, h0, h1⟩ := open_agg2 Tryd.underlying24 hone_rows cells_rows hv h
  obtain ⟨N, e0, rfl, z0⟩ := DataW.trod_int Tryd.underlying3 h0
  obtain ⟨a, n, c, e1⟩ := slice_form Tryd.underlying22 h1
  simp only [List.cons.injEq, and_true] at e0 e1
  subst e0 e1
  obtain ⟨l, e2, e3, e4, e5⟩ := open_nums (p := y1.2) (d := y1.1) ⟨q, h1⟩
  have hb := bounds_i64 z0
  exact ⟨N, a, n, c, l, rfl, by omega, by omega, e2, e3, e4, y1.1, rfl, e5⟩
/-- THE REACH: a set that came in has fewer than 2^44 words. -/
theorem reach_rows {H : Type} {ts : List TypeId} {ds : List (DataW H)} {j n : Nat} {N : Int} {d d1 : DataW H} (h : (DataW.weightsEach Tryd.prog ts ds).all (· ≤ reachBytes) = true) (ht : ts[j]? = some 24) (hd : ds[j]? = some d)
    (he : d = .agg [.lit (.int .i64 N), d1]) (hv : d1 = .nil ∧ n = 0 ∨ ∃ elems spare, d1 = .slice elems spare ∧ elems.length = n) : 8 * n ≤ 140737488351232 := by
  subst he
  rcases hv with ⟨_, rfl⟩ | ⟨elems, spare, rfl, rfl⟩
  · omega
  · have hm := DataW.weights_mem_each (P := Tryd.prog) ht hd
    have hk : (elems.length + spare.length) * Tryd.prog.bytesOf 41 ∈ (DataW.agg [.lit (.int .i64 N), .slice elems spare] : DataW H).weights Tryd.prog 24 := by
      simp only [DataW.weights, Tryd.underlying24, List.map, DataW.weightsEach, Tryd.underlying22]
      simp
    have h1 := List.all_eq_true.1 h _ (hm _ hk)
    rw [bytes64] at h1
    simp only [reachBytes] at h1
    have := of_decide_eq_true h1
    omega
end Go.Proofs.YtggelnlbdpdegaaDoor
