/- Two fields, compared. -/
import Derived.Test.YtbjoboemhdcalaaDoorFldAt
import Derived.Laws.StructEq
namespace Go.Proofs.YtbjoboemhdcalaaDoor
open Go.RowKit
set_option maxRecDepth 100000

theorem stoodIn_field : Tryd.prog.stoodInHeld 27 = false := by kernel_rfl
theorem guard_field : Tryd.prog.eqGuardType Tryd.prog.depth 27 = false := by kernel_rfl
theorem struct_field : Tryd.prog.underlying 27 = some (.struct (Tryd.prog.fieldsOf 27)) := by kernel_rfl
theorem Fld.beq4 (a b : List UInt8) (c d e f : Int) (x y : List UInt8) : decide ((⟨a, c, e, x⟩ : Fld.F) = ⟨b, d, f, y⟩) = (a == b && (c == d && (e == f && x == y))) := by
  rw [Bool.eq_iff_iff]
  simp
theorem run_eq_field (a b : List UInt8) (c d e f : Int) (x y : List UInt8) (W : World) :
    (Op.equalIn 10000 27 (.agg #[.string ⟨a.toArray⟩, .int .i64 c, .int .i64 e, .string ⟨x.toArray⟩]) (.agg #[.string ⟨b.toArray⟩, .int .i64 d, .int .i64 f, .string ⟨y.toArray⟩])).run Tryd.prog W =
      .ok (decide ((⟨a, c, e, x⟩ : Fld.F) = ⟨b, d, f, y⟩)) W := by
  rw [run_equalIn_struct W 9999 27 _ _ struct_field stoodIn_field, Fld.beq4]
  simp only [Program.fieldsOf, Tryd.underlying27]
  rcases h1 : (a == b) with _ | _ <;> rcases h2 : (c == d) with _ | _ <;> rcases h3 : (e == f) with _ | _ <;> rcases h4 : (x == y) with _ | _ <;>
    simp [Op.eqFields, go_sem, h1, h2, h3, h4, ByteArray.toList_eq]
end Go.Proofs.YtbjoboemhdcalaaDoor
