/- field.isKeyByte, field.isBlank, field.IsKey; the document's blank and IsKey. -/
import Derived.Test.YtbjoboemhdcalaaDoorDraws
import Derived.Test.YtbjoboemhdcalaaDoorFldW
import Derived.WalkSpells
import Derived.WalkLawsBesides
import Derived.KernelRfl
namespace Go.Proofs.YtbjoboemhdcalaaDoor
open Go.RowKit
set_option maxRecDepth 100000

theorem blank_of (c : UInt8) : ∀ b : Bool, (b = true ↔ c.toNat = 9 ∨ c.toNat = 10 ∨ c.toNat = 13 ∨ c.toNat = 32) → Fld.blank c = b := fun b hb => by
  rw [Bool.eq_iff_iff, hb]
  simp only [Fld.blank, Bool.or_eq_true, beq_iff_eq]
  omega
theorem keyByte_of (c : UInt8) : ∀ b : Bool, (b = true ↔ (97 ≤ c.toNat ∧ c.toNat ≤ 122) ∨ (65 ≤ c.toNat ∧ c.toNat ≤ 90) ∨ (48 ≤ c.toNat ∧ c.toNat ≤ 57) ∨ c.toNat = 95 ∨ c.toNat = 46 ∨ c.toNat = 45) → Fld.keyByte c = b := fun b hb => by
  rw [Bool.eq_iff_iff, hb]
  simp only [Fld.keyByte, Bool.or_eq_true, Bool.and_eq_true, decide_eq_true_eq, beq_iff_eq]
  omega

set_option maxHeartbeats 2000000 in
theorem isBlank_any (c : UInt8) (w : World) : Calls Tryd.prog 40 #[.int .u8 (c.toNat : Int)] w fun e w' => e = .returned (.bool (Fld.blank c)) ∧ w = w' := by
  have HP := Lib.hid (blank_of c)
  obtain ⟨x, hx, h0, h1⟩ : ∃ x : Int, x = (c.toNat : Int) ∧ 0 ≤ x ∧ x ≤ 255 := ⟨_, rfl, by omega, by have := c.toNat_lt; omega⟩
  rw [← hx]
  have Hx := Lib.hid hx; clear hx
  go_enter Tryd.func40, Tryd.ntmps40
  go_wp2
  all_goals
    go_ret
    exact ⟨(congrArg (fun b => Ending.returned (Value.bool b)) (HP.out _ (by have := Hx.out; simp; omega))).symm, rfl⟩

set_option maxHeartbeats 2000000 in
theorem refBlank_any (c : UInt8) (w : World) : Calls Tryd.prog 33 #[.int .u8 (c.toNat : Int)] w fun e w' => e = .returned (.bool (Fld.blank c)) ∧ w = w' := by
  have HP := Lib.hid (blank_of c)
  obtain ⟨x, hx, h0, h1⟩ : ∃ x : Int, x = (c.toNat : Int) ∧ 0 ≤ x ∧ x ≤ 255 := ⟨_, rfl, by omega, by have := c.toNat_lt; omega⟩
  rw [← hx]
  have Hx := Lib.hid hx; clear hx
  go_enter Tryd.func33, Tryd.ntmps33
  go_wp2
  all_goals
    go_ret
    exact ⟨(congrArg (fun b => Ending.returned (Value.bool b)) (HP.out _ (by have := Hx.out; simp; omega))).symm, rfl⟩

set_option maxHeartbeats 4000000 in
theorem isKeyByte_any (c : UInt8) (w : World) : Calls Tryd.prog 28 #[.int .u8 (c.toNat : Int)] w fun e w' => e = .returned (.bool (Fld.keyByte c)) ∧ w = w' := by
  have HP := Lib.hid (keyByte_of c)
  obtain ⟨x, hx, h0, h1⟩ : ∃ x : Int, x = (c.toNat : Int) ∧ 0 ≤ x ∧ x ≤ 255 := ⟨_, rfl, by omega, by have := c.toNat_lt; omega⟩
  rw [← hx]
  have Hx := Lib.hid hx; clear hx
  go_enter Tryd.func28, Tryd.ntmps28
  go_wp2
  all_goals
    go_ret
    exact ⟨(congrArg (fun b => Ending.returned (Value.bool b)) (HP.out _ (by have := Hx.out; simp; omega))).symm, rfl⟩
end Go.Proofs.YtbjoboemhdcalaaDoor
