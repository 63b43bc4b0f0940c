/- A piece of a byte slice from a place on. -/
import Derived.Test.YtmcioglidgbibaaCuts
namespace Go.Proofs.Ytmcioglidgbibaa
open Go.RowKit

/-- a piece from lo on, its length given -/
theorem run_cut_from (A : Option Addr) (n cap lo m : Nat) (h : n = lo + m) (W : World) :
    (Instr.slice 24 (.slice A n cap) (some (.int .i64 (lo : Int))) none none).run Try.prog W = .ok (.slice (cutAt A cap lo) m (cap - lo)) W := by
  rw [run_cut_l A n cap lo (by omega), show n - lo = m from by omega]
end Go.Proofs.Ytmcioglidgbibaa
