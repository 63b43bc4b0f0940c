/- token.Is and the document's Is. -/
import Derived.Test.YtahcmpmfknmecaaTokLow
namespace Go.Proofs.Ytahcmpmfknmecaa
open Go.RowKit
set_option maxRecDepth 100000

/-- a letter of a term -/
def Tok.lets (c : UInt8) : Bool := Tok.inB c && !Tok.cap c
theorem Tok.is_of (s : List UInt8) (h1 : 1 ≤ s.length) (h2 : s.length ≤ 64) : Tok.is s = s.all Tok.lets := by
  have e : Tok.is s = (decide (1 ≤ s.length) && decide (s.length ≤ 64) && s.all Tok.lets) := rfl
  rw [e]
  simp [h1, h2]
theorem Tok.is_bad {s : List UInt8} {k : Nat} (hk : k < s.length) (h : Tok.lets s[k] = false) : Tok.is s = false := by
  have e : Tok.is s = (decide (1 ≤ s.length) && decide (s.length ≤ 64) && s.all Tok.lets) := rfl
  rw [e, show s.all Tok.lets = false from List.all_eq_false.2 ⟨s[k], List.getElem_mem hk, by rw [h]; simp⟩]
  simp
theorem Tok.all_next {s : List UInt8} {k : Nat} (hk : k < s.length) (p : UInt8 → Bool) (h1 : (s.take k).all p = true) (h : p s[k] = true) : (s.take (k + 1)).all p = true := by
  rw [List.take_succ_eq_append_getElem hk, List.all_append, h1]
  simp [h]

theorem run_letter (s : List UInt8) (k : Nat) (hk : k < s.length) (W : World) :
    (Instr.index 9 (.string ⟨s.toArray⟩) (.int .i64 (k : Int))).run Try.prog W = .ok (.int .u8 (s[k].toNat : Int)) W := by
  have hsz : (⟨s.toArray⟩ : ByteArray).size = s.length := by rw [ByteArray.size, List.size_toArray]
  rw [run_index_string (P := Try.prog) W 9 ⟨s.toArray⟩ .i64 (k : Int) Try.underlying9, dif_pos ⟨by omega, by rw [hsz]; omega⟩]
  rfl
theorem letter_eq (s : List UInt8) (k : Nat) (hk : k < s.length) : ((⟨s.toArray⟩ : ByteArray)[k]'(by rw [ByteArray.size, List.size_toArray]; exact hk)) = s[k] := rfl

set_option maxHeartbeats 2000000 in
theorem is_any (s : List UInt8) (w : World) (hs : s.length ≤ 140737488355328) :
    Calls Try.prog 16 #[.string ⟨s.toArray⟩] w fun e w' => e = .returned (.bool (Tok.is s)) ∧ w = w' := by
  by_cases h0 : s = []
  · subst h0
    have e0 : (([] : List UInt8) == []) = true := rfl
    go_enter Try.func16, Try.ntmps16
    go_wp2
    go_ret
    exact ⟨rfl, rfl⟩
  · have e0 : (s == []) = false := by simpa using h0
    have hpos : 1 ≤ s.length := List.length_pos_iff.2 h0
    by_cases h64 : s.length ≤ 64
    · have HI := Lib.hid (Tok.is_of s hpos h64)
      have HB := Lib.hid fun k hk => Tok.is_bad (s := s) (k := k) hk
      have h64' : ¬ (64 : Int) < (s.length : Int) := by omega
      have hne : ¬ s.toArray = #[] := by simpa using h0
      go_enter Try.func16, Try.ntmps16
      go_wp2
      go_loop [14] (fun i => ∃ (k : Nat), k ≤ s.length ∧ i = .int .i64 k ∧ (s.take k).all Tok.lets = true) (fun i => s.length - (intOf i).toNat)
      case atStart => exact ⟨0, by omega, rfl, by simp⟩
      case round =>
        obtain ⟨k, hk, rfl, hall⟩ := hrel
        by_cases hlt : k < s.length
        · have H1 := Lib.hid fun W => tokenByte_any s[k] W
          have H2 := Lib.hid fun W => capital_any s[k] W
          have Hk := Lib.hid (HB.out k hlt)
          have Hn := Lib.hid (Tok.all_next hlt Tok.lets hall)
          have HL := Lib.hid (show Tok.lets s[k] = (Tok.inB s[k] && !Tok.cap s[k]) from rfl)
          have he := letter_eq s k hlt
          clear hall HB
          rcases h1 : Tok.inB s[k] with _ | _
          · rw [h1] at HL H1
            have HR := Lib.hid (Hk.out HL.out)
            clear h1 HI Hk
            go_wp2_with fail
            refine (H1.out _).mono ?_
            rintro e w1 ⟨rfl, rfl⟩
            go_wp2
            go_ret
            exact ⟨by rw [HR.out]; rfl, rfl⟩
          · rw [h1] at HL H1
            rcases h2 : Tok.cap s[k] with _ | _
            · rw [h2] at HL H2
              have hA := Hn.out HL.out
              have HH := Lib.hid hA
              clear h1 h2 hA Hk
              go_wp2_with fail
              refine (H1.out _).mono ?_
              rintro e w1 ⟨rfl, rfl⟩
              go_wp2_with fail
              refine (H2.out _).mono ?_
              rintro e w1 ⟨rfl, rfl⟩
              go_wp2
              go_round
              case rel => exact ⟨k + 1, by omega, by go_num, HH.out⟩
              case measure => simp [intOf]; omega
            · rw [h2] at HL H2
              have HR := Lib.hid (Hk.out HL.out)
              clear h1 h2 HI Hk
              go_wp2_with fail
              refine (H1.out _).mono ?_
              rintro e w1 ⟨rfl, rfl⟩
              go_wp2_with fail
              refine (H2.out _).mono ?_
              rintro e w1 ⟨rfl, rfl⟩
              go_wp2
              go_ret
              exact ⟨by rw [HR.out]; rfl, rfl⟩
        · have hA : Tok.is s = true := by
            rw [HI.out]
            rwa [List.take_of_length_le (by omega)] at hall
          have HR := Lib.hid hA
          clear hA hall HI HB
          go_wp2
          go_ret
          exact ⟨by rw [HR.out]; rfl, rfl⟩
    · have HI := Lib.hid (show Tok.is s = false from by unfold Tok.is; simp; omega)
      have h64' : (64 : Int) < (s.length : Int) := by omega
      have hne : ¬ s.toArray = #[] := by simpa using h0
      go_enter Try.func16, Try.ntmps16
      go_wp2
      go_ret
      exact ⟨by rw [HI.out]; rfl, rfl⟩
end Go.Proofs.Ytahcmpmfknmecaa
