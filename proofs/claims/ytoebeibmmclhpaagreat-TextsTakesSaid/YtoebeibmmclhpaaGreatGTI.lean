/- Texts of several layers, one behind the other: LzRefUnpAny. -/
import Derived.Test.YtoebeibmmclhpaaGreatGTH
/- dragnetref05.Unpack for every most. -/
namespace Go.Proofs.YtoebeibmmclhpaaGreat
open Go.RowKit
set_option maxRecDepth 100000
set_option maxHeartbeats 1000000 in
theorem lzRefUnpack_any (A : Option Addr) (n cap B : Nat) (l : List UInt8) (most : Int) (w : World) (hl : l.length = n) (hcap : n ≤ cap) (hm : n ≤ 140737488355328) (hmost : most ≤ 100000000) (hb : Bytes w B A l) (hB : B ≤ w.heap.size) :
    Calls Tryz.prog 64 #[.slice A n cap, .int .i64 most] w (UnPost w (Lz.unpack l most)) := by
  by_cases h0 : most < 0
  · have e : Lz.unpack l most = ([], 1) := by unfold Lz.unpack; rw [if_pos h0]
    rw [e]
    clear hb hl e
    go_enter Tryz.func64, Tryz.ntmps64
    go_wp2
    go_ret2
    exact ⟨none, 0, rfl, own_none2 _ _, Below.refl _ _⟩
  · obtain ⟨m, rfl⟩ : ∃ m : Nat, most = (m : Int) := ⟨most.toNat, by omega⟩
    have e : Lz.unpack l (m : Int) = Lz.run m (n + 1) l [] := by unfold Lz.unpack; rw [if_neg h0, hl]; rfl
    rw [e]
    exact refUnpack_pos A n cap B l m w hl hcap hm (by omega) hb hB
end Go.Proofs.YtoebeibmmclhpaaGreat
