/- field.IsKey and the document's IsKey. -/
import Derived.Test.YtbjoboemhdcalaaDoorFldFns
namespace Go.Proofs.YtbjoboemhdcalaaDoor
open Go.RowKit
set_option maxRecDepth 100000

theorem Fld.isKey_of (s : List UInt8) (h1 : 1 ≤ s.length) (h2 : s.length ≤ 32) : Fld.isKey s = s.all Fld.keyByte := by
  unfold Fld.isKey
  simp [h1, h2]
theorem Fld.isKey_bad {s : List UInt8} {k : Nat} (hk : k < s.length) (h : Fld.keyByte s[k] = false) : Fld.isKey s = false := by
  unfold Fld.isKey
  rw [show s.all Fld.keyByte = false from List.all_eq_false.2 ⟨s[k], List.getElem_mem hk, by rw [h]; simp⟩]
  simp
theorem Fld.all_next {s : List UInt8} {k : Nat} (hk : k < s.length) (p : UInt8 → Bool) (h1 : (s.take k).all p = true) (h : p s[k] = true) : (s.take (k + 1)).all p = true := by
  rw [List.take_succ_eq_append_getElem hk, List.all_append, h1]
  simp [h]
theorem letter_eq (s : List UInt8) (k : Nat) (hk : k < s.length) : ((⟨s.toArray⟩ : ByteArray)[k]'(by rw [ByteArray.size, List.size_toArray]; exact hk)) = s[k] := rfl

set_option maxHeartbeats 2000000 in
theorem isKey_any (s : List UInt8) (w : World) (hs : s.length ≤ 140737488355328) :
    Calls Tryd.prog 14 #[.string ⟨s.toArray⟩] w fun e w' => e = .returned (.bool (Fld.isKey s)) ∧ w = w' := by
  by_cases h0 : s = []
  · subst h0
    have e0 : (([] : List UInt8) == []) = true := rfl
    go_enter Tryd.func14, Tryd.ntmps14
    go_wp2
    go_ret
    exact ⟨rfl, rfl⟩
  · have e0 : (s == []) = false := by simpa using h0
    have hpos : 1 ≤ s.length := List.length_pos_iff.2 h0
    by_cases h64 : s.length ≤ 32
    · have HI := Lib.hid (Fld.isKey_of s hpos h64)
      have HB := Lib.hid fun k hk => Fld.isKey_bad (s := s) (k := k) hk
      have h64' : ¬ (32 : Int) < (s.length : Int) := by omega
      have hne : ¬ s.toArray = #[] := by simpa using h0
      go_enter Tryd.func14, Tryd.ntmps14
      go_wp2
      go_loop [13] (fun i => ∃ (k : Nat), k ≤ s.length ∧ i = .int .i64 k ∧ (s.take k).all Fld.keyByte = true) (fun i => s.length - (intOf i).toNat)
      case atStart => exact ⟨0, by omega, rfl, by simp⟩
      case round =>
        obtain ⟨k, hk, rfl, hall⟩ := hrel
        by_cases hlt : k < s.length
        · have H1 := Lib.hid fun W => isKeyByte_any s[k] W
          have Hk := Lib.hid (HB.out k hlt)
          have Hn := Lib.hid (Fld.all_next hlt Fld.keyByte hall)
          have he := letter_eq s k hlt
          clear hall HB
          rcases h1 : Fld.keyByte s[k] with _ | _
          · rw [h1] at H1
            have HR := Lib.hid (Hk.out h1)
            clear h1 HI Hk
            go_wp2_with fail
            refine (H1.out _).mono ?_
            rintro e w1 ⟨rfl, rfl⟩
            go_wp2
            go_ret
            exact ⟨by rw [HR.out]; rfl, rfl⟩
          · rw [h1] at H1
            have HH := Lib.hid (Hn.out h1)
            clear h1 Hk
            go_wp2_with fail
            refine (H1.out _).mono ?_
            rintro e w1 ⟨rfl, rfl⟩
            go_wp2
            go_round
            case rel => exact ⟨k + 1, by omega, by go_num, HH.out⟩
            case measure => simp [intOf]; omega
        · have hA : Fld.isKey s = true := by
            rw [HI.out]
            rwa [List.take_of_length_le (by omega)] at hall
          have HR := Lib.hid hA
          clear hA hall HI HB
          go_wp2
          go_ret
          exact ⟨by rw [HR.out]; rfl, rfl⟩
    · have HI := Lib.hid (show Fld.isKey s = false from by unfold Fld.isKey; simp; omega)
      have h64' : (32 : Int) < (s.length : Int) := by omega
      have hne : ¬ s.toArray = #[] := by simpa using h0
      go_enter Tryd.func14, Tryd.ntmps14
      go_wp2
      go_ret
      exact ⟨by rw [HI.out]; rfl, rfl⟩

set_option maxHeartbeats 4000000 in
theorem refIsKey_any (s : List UInt8) (w : World) (hs : s.length ≤ 140737488355328) :
    Calls Tryd.prog 15 #[.string ⟨s.toArray⟩] w fun e w' => e = .returned (.bool (Fld.isKey s)) ∧ w = w' := by
  have HB := Lib.hid fun k hk => Fld.isKey_bad (s := s) (k := k) hk
  go_enter Tryd.func15, Tryd.ntmps15
  go_wp2
  go_loop [3] (fun i => ∃ (k : Nat), k ≤ s.length ∧ i = .int .i64 k ∧ (s.take k).all Fld.keyByte = true) (fun i => s.length - (intOf i).toNat)
  case atStart => exact ⟨0, by omega, rfl, by simp⟩
  case round =>
    obtain ⟨k, hk, rfl, hall⟩ := hrel
    by_cases hlt : k < s.length
    · have HP := Lib.hid (keyByte_of s[k])
      have Hk := Lib.hid (HB.out k hlt)
      have Hn := Lib.hid (Fld.all_next hlt Fld.keyByte hall)
      have he := letter_eq s k hlt
      have h255 := s[k].toNat_lt
      clear hall HB
      generalize hc : s[k] = c at *
      have Hc := Lib.hid hc; clear hc
      obtain ⟨x, hx, h0, h1⟩ : ∃ x : Int, x = (c.toNat : Int) ∧ 0 ≤ x ∧ x ≤ 255 := ⟨_, rfl, by omega, by omega⟩
      have hidx : ∀ W, (Instr.index 9 (.string ⟨s.toArray⟩) (.int .i64 (k : Int))).run Tryd.prog W = .ok (.int .u8 x) W := fun W => by
        have hsz : (⟨s.toArray⟩ : ByteArray).size = s.length := by rw [ByteArray.size, List.size_toArray]
        rw [run_index_string (P := Tryd.prog) W 9 ⟨s.toArray⟩ .i64 (k : Int) Tryd.underlying9, dif_pos ⟨by omega, by rw [hsz]; omega⟩, hx, ← Hc.out]
        rfl
      have Hx := Lib.hid hx; clear hx he h255
      rcases (by omega : x = 95 ∨ x = 46 ∨ x = 45 ∨ ¬ (x = 95 ∨ x = 46 ∨ x = 45)) with rfl | rfl | rfl | hno
      case inr.inr.inr =>
        have e1 : (x == 95) = false := by simp; omega
        have e2 : (x == 46) = false := by simp; omega
        have e3 : (x == 45) = false := by simp; omega
        have n1 : ¬ x = 95 := by omega
        have n2 : ¬ x = 46 := by omega
        have n3 : ¬ x = 45 := by omega
        rcases (by omega : x < 48 ∨ (48 ≤ x ∧ x ≤ 57) ∨ (57 < x ∧ x < 65) ∨ (65 ≤ x ∧ x ≤ 90) ∨ (90 < x ∧ x < 97) ∨ (97 ≤ x ∧ x ≤ 122) ∨ 122 < x) with h | h | h | h | h | h | h
        all_goals
          first
            | (have h97 : 97 ≤ x := by omega)
            | (have h97 : ¬ 97 ≤ x := by omega)
          first
            | (have h122 : x ≤ 122 := by omega)
            | (have h122 : ¬ x ≤ 122 := by omega)
          first
            | (have h65 : 65 ≤ x := by omega)
            | (have h65 : ¬ 65 ≤ x := by omega)
          first
            | (have h90 : x ≤ 90 := by omega)
            | (have h90 : ¬ x ≤ 90 := by omega)
          first
            | (have h48 : 48 ≤ x := by omega)
            | (have h48 : ¬ 48 ≤ x := by omega)
          first
            | (have h57 : x ≤ 57 := by omega)
            | (have h57 : ¬ x ≤ 57 := by omega)
          have Hno := Lib.hid hno; clear hno h
          go_wp2
        all_goals first
          | (go_round
             case rel => exact ⟨k + 1, by omega, by go_num, Hn.out (HP.out _ (by have := Hx.out; have := Hno.out; constructor <;> intro h <;> first | omega | rfl | cases h))⟩
             case measure => simp [intOf]; omega)
          | (go_ret
             exact ⟨(congrArg (fun b => Ending.returned (Value.bool b)) (Hk.out (HP.out _ (by have := Hx.out; have := Hno.out; constructor <;> intro h <;> first | omega | rfl | cases h)))).symm, rfl⟩)
      all_goals go_wp2
      all_goals first
        | (go_round
           case rel => exact ⟨k + 1, by omega, by go_num, Hn.out (HP.out _ (by have := Hx.out; constructor <;> intro h <;> first | omega | rfl | cases h))⟩
           case measure => simp [intOf]; omega)
        | (go_ret
           exact ⟨(congrArg (fun b => Ending.returned (Value.bool b)) (Hk.out (HP.out _ (by have := Hx.out; constructor <;> intro h <;> first | omega | rfl | cases h)))).symm, rfl⟩)
    · have HA := Lib.hid (show s.all Fld.keyByte = true by rwa [List.take_of_length_le (by omega)] at hall)
      clear hall HB
      have HK := Lib.hid (show ∀ b : Bool, (b = true ↔ 1 ≤ s.length ∧ s.length ≤ 32) → Fld.isKey s = b from fun b hb => by
        rw [Bool.eq_iff_iff, hb]; unfold Fld.isKey; simp only [HA.out, Bool.and_true, Bool.and_eq_true, decide_eq_true_eq])
      go_wp2
      all_goals
        go_ret
        exact ⟨(congrArg (fun b => Ending.returned (Value.bool b)) (HK.out _ (by simp; omega))).symm, rfl⟩
end Go.Proofs.YtbjoboemhdcalaaDoor
