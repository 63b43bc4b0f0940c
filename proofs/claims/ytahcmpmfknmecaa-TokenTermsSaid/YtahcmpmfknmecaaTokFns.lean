/- token.isCapital, token.isTokenByte; the document's In. -/
import Derived.Test.YtahcmpmfknmecaaDraws
import Derived.Test.YtahcmpmfknmecaaTok
import Derived.WalkSpells
import Derived.WalkLawsBesides
import Derived.KernelRfl
namespace Go.Proofs.Ytahcmpmfknmecaa
open Go.RowKit
set_option maxRecDepth 100000

theorem capital_any (c : UInt8) (w : World) : Calls Try.prog 27 #[.int .u8 (c.toNat : Int)] w fun e w' => e = .returned (.bool (Tok.cap c)) ∧ w = w' := by
  have HP := Lib.hid (show ∀ b : Bool, (b = true ↔ 65 ≤ c.toNat ∧ c.toNat ≤ 90) → Tok.cap c = b from fun b hb => by
    rw [Bool.eq_iff_iff, hb]; simp [Tok.cap])
  obtain ⟨x, hx, h0, h1⟩ : ∃ x : Int, x = (c.toNat : Int) ∧ 0 ≤ x ∧ x ≤ 255 := ⟨_, rfl, by omega, by have := c.toNat_lt; omega⟩
  rw [← hx]
  have Hx := Lib.hid hx; clear hx
  by_cases h65 : 65 ≤ x
  · by_cases h90 : x ≤ 90
    · go_enter Try.func27, Try.ntmps27
      go_wp2
      go_ret
      exact ⟨(congrArg (fun b => Ending.returned (Value.bool b)) (HP.out _ (by have := Hx.out; simp; omega))).symm, rfl⟩
    · go_enter Try.func27, Try.ntmps27
      go_wp2
      go_ret
      exact ⟨(congrArg (fun b => Ending.returned (Value.bool b)) (HP.out _ (by have := Hx.out; simp; omega))).symm, rfl⟩
  · go_enter Try.func27, Try.ntmps27
    go_wp2
    go_ret
    exact ⟨(congrArg (fun b => Ending.returned (Value.bool b)) (HP.out _ (by have := Hx.out; simp; omega))).symm, rfl⟩

theorem inB_of (c : UInt8) : ∀ b : Bool, (b = true ↔ (97 ≤ c.toNat ∧ c.toNat ≤ 122) ∨ (65 ≤ c.toNat ∧ c.toNat ≤ 90) ∨ (48 ≤ c.toNat ∧ c.toNat ≤ 57) ∨ 128 ≤ c.toNat) → Tok.inB c = b := fun b hb => by
  rw [Bool.eq_iff_iff, hb]
  simp only [Tok.inB, Tok.cap, Bool.or_eq_true, Bool.and_eq_true, decide_eq_true_eq]
  omega

set_option maxHeartbeats 2000000 in
theorem tokenByte_any (c : UInt8) (w : World) : Calls Try.prog 22 #[.int .u8 (c.toNat : Int)] w fun e w' => e = .returned (.bool (Tok.inB c)) ∧ w = w' := by
  have HP := Lib.hid (inB_of c)
  have HC := Lib.hid fun W => capital_any c W
  have hcap : (Tok.cap c = true ∧ 65 ≤ c.toNat ∧ c.toNat ≤ 90) ∨ (Tok.cap c = false ∧ ¬ (65 ≤ c.toNat ∧ c.toNat ≤ 90)) := by
    by_cases h : 65 ≤ c.toNat ∧ c.toNat ≤ 90
    · exact .inl ⟨by simp [Tok.cap, h], h⟩
    · exact .inr ⟨by simp only [Tok.cap, Bool.and_eq_false_iff, decide_eq_false_iff_not]; omega, h⟩
  obtain ⟨x, hx, h0, h1⟩ : ∃ x : Int, x = (c.toNat : Int) ∧ 0 ≤ x ∧ x ≤ 255 := ⟨_, rfl, by omega, by have := c.toNat_lt; omega⟩
  rw [← hx] at HC ⊢
  have Hx := Lib.hid hx; clear hx
  have Hcap := Lib.hid hcap; clear hcap
  by_cases h97 : 97 ≤ x
  · by_cases h122 : x ≤ 122
    · go_enter Try.func22, Try.ntmps22
      go_wp2
      go_ret
      exact ⟨(congrArg (fun b => Ending.returned (Value.bool b)) (HP.out _ (by have := Hx.out; simp; omega))).symm, rfl⟩
    · have hc : Tok.cap c = false := by have := Hx.out; have := Hcap.out; rcases this with h | h <;> first | exact h.1 | (exfalso; omega)
      rw [hc] at HC
      have h48 : 48 ≤ x := by omega
      have h57 : ¬ x ≤ 57 := by omega
      by_cases h128 : 128 ≤ x
      · go_enter Try.func22, Try.ntmps22
        go_wp2_with fail
        refine (HC.out _).mono ?_
        rintro e w1 ⟨rfl, rfl⟩
        go_wp2
        go_ret
        exact ⟨(congrArg (fun b => Ending.returned (Value.bool b)) (HP.out _ (by have := Hx.out; simp; omega))).symm, rfl⟩
      · go_enter Try.func22, Try.ntmps22
        go_wp2_with fail
        refine (HC.out _).mono ?_
        rintro e w1 ⟨rfl, rfl⟩
        go_wp2
        go_ret
        exact ⟨(congrArg (fun b => Ending.returned (Value.bool b)) (HP.out _ (by have := Hx.out; simp; omega))).symm, rfl⟩
  · rcases Hcap.out with ⟨hc, h65, h90⟩ | ⟨hc, hn⟩
    · rw [hc] at HC
      have Hb := Lib.hid (And.intro h65 h90)
      clear Hcap hc h65 h90
      go_enter Try.func22, Try.ntmps22
      go_wp2_with fail
      refine (HC.out _).mono ?_
      rintro e w1 ⟨rfl, rfl⟩
      go_wp2
      go_ret
      exact ⟨(congrArg (fun b => Ending.returned (Value.bool b)) (HP.out _ (by have := Hx.out; have := Hb.out; simp; omega))).symm, rfl⟩
    · rw [hc] at HC
      have Hb := Lib.hid hn
      clear Hcap hc hn
      have h128 : ¬ 128 ≤ x := by omega
      by_cases h48 : 48 ≤ x
      · by_cases h57 : x ≤ 57
        · go_enter Try.func22, Try.ntmps22
          go_wp2_with fail
          refine (HC.out _).mono ?_
          rintro e w1 ⟨rfl, rfl⟩
          go_wp2
          go_ret
          exact ⟨(congrArg (fun b => Ending.returned (Value.bool b)) (HP.out _ (by have := Hx.out; have := Hb.out; simp; omega))).symm, rfl⟩
        · go_enter Try.func22, Try.ntmps22
          go_wp2_with fail
          refine (HC.out _).mono ?_
          rintro e w1 ⟨rfl, rfl⟩
          go_wp2
          go_ret
          exact ⟨(congrArg (fun b => Ending.returned (Value.bool b)) (HP.out _ (by have := Hx.out; have := Hb.out; simp; omega))).symm, rfl⟩
      · go_enter Try.func22, Try.ntmps22
        go_wp2_with fail
        refine (HC.out _).mono ?_
        rintro e w1 ⟨rfl, rfl⟩
        go_wp2
        go_ret
        exact ⟨(congrArg (fun b => Ending.returned (Value.bool b)) (HP.out _ (by have := Hx.out; have := Hb.out; simp; omega))).symm, rfl⟩

set_option maxHeartbeats 2000000 in
theorem refIn_any (c : UInt8) (w : World) : Calls Try.prog 24 #[.int .u8 (c.toNat : Int)] w fun e w' => e = .returned (.bool (Tok.inB c)) ∧ w = w' := by
  have HP := Lib.hid (inB_of c)
  obtain ⟨x, hx, h0, h1⟩ : ∃ x : Int, x = (c.toNat : Int) ∧ 0 ≤ x ∧ x ≤ 255 := ⟨_, rfl, by omega, by have := c.toNat_lt; omega⟩
  rw [← hx]
  have Hx := Lib.hid hx; clear hx
  rcases (by omega : x < 48 ∨ (48 ≤ x ∧ x ≤ 57) ∨ (57 < x ∧ x < 65) ∨ (65 ≤ x ∧ x ≤ 90) ∨ (90 < x ∧ x < 97) ∨ (97 ≤ x ∧ x ≤ 122) ∨ (122 < x ∧ x < 128) ∨ 128 ≤ x) with h | h | h | h | h | h | h | h
  all_goals
    first
      | (have h97 : 97 ≤ x := by omega)
      | (have h97 : ¬ 97 ≤ x := by omega)
    first
      | (have h122 : x ≤ 122 := by omega)
      | (have h122 : ¬ x ≤ 122 := by omega)
    first
      | (have h65 : 65 ≤ x := by omega)
      | (have h65 : ¬ 65 ≤ x := by omega)
    first
      | (have h90 : x ≤ 90 := by omega)
      | (have h90 : ¬ x ≤ 90 := by omega)
    first
      | (have h48 : 48 ≤ x := by omega)
      | (have h48 : ¬ 48 ≤ x := by omega)
    first
      | (have h57 : x ≤ 57 := by omega)
      | (have h57 : ¬ x ≤ 57 := by omega)
    first
      | (have h128 : 128 ≤ x := by omega)
      | (have h128 : ¬ 128 ≤ x := by omega)
    clear h
    go_enter Try.func24, Try.ntmps24
    go_wp2
    go_ret
    exact ⟨(congrArg (fun b => Ending.returned (Value.bool b)) (HP.out _ (by have := Hx.out; simp; omega))).symm, rfl⟩
end Go.Proofs.Ytahcmpmfknmecaa
