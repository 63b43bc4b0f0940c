/- The document's Is. -/
import Derived.Test.YtahcmpmfknmecaaTokIs
namespace Go.Proofs.Ytahcmpmfknmecaa
open Go.RowKit
set_option maxRecDepth 100000

theorem Tok.is_caps {s : List UInt8} (h : Tok.lower s ≠ s) : Tok.is s = false := by
  rcases hi : Tok.is s with _ | _
  · rfl
  · exact absurd ((Tok.lower_self s).2 fun c hc => (((Tok.is_iff s).1 hi).2 c hc).2) h
theorem Tok.is_all {s : List UInt8} (h1 : 1 ≤ s.length) (h2 : s.length ≤ 64) (h : Tok.lower s = s) : Tok.is s = s.all Tok.inB := by
  rw [Bool.eq_iff_iff, Tok.is_iff, List.all_eq_true]
  have hc := (Tok.lower_self s).1 h
  exact ⟨fun h c hm => (h.2 c hm).1, fun h => ⟨⟨h1, h2⟩, fun c hm => ⟨h c hm, hc c hm⟩⟩⟩

set_option maxHeartbeats 2000000 in
theorem refIs_any (s : List UInt8) (w : World) (hs : s.length ≤ 140737488355328) :
    Calls Try.prog 19 #[.string ⟨s.toArray⟩] w fun e w' => e = .returned (.bool (Tok.is s)) ∧ Below w.heap.size w w' := by
  by_cases hpos : 1 ≤ s.length
  · have hpos' : ¬ (s.length : Int) < 1 := by omega
    by_cases h64 : s.length ≤ 64
    · have h64' : ¬ (64 : Int) < (s.length : Int) := by omega
      have C := Lib.hid (refLower_any s w hs)
      by_cases hl : Tok.lower s = s
      · have HI := Lib.hid (Tok.is_all hpos h64 hl)
        rw [hl] at C
        have hne : (s != s) = false := by simp
        clear hl
        obtain ⟨M, hM⟩ : ∃ M, M = w.heap.size := ⟨_, rfl⟩
        rw [← hM] at C ⊢
        have HM := Lib.hid hM; clear hM
        go_enter Try.func19, Try.ntmps19
        go_wp2_with fail
        refine C.out.mono ?_
        rintro e w1 ⟨rfl, hbel⟩
        clear C
        go_wp2
        go_loop [3] (fun i => ∃ (k : Nat), k ≤ s.length ∧ i = .int .i64 k ∧ (s.take k).all Tok.inB = true) (fun i => s.length - (intOf i).toNat)
        case atStart => exact ⟨0, by omega, rfl, by simp⟩
        case round =>
          obtain ⟨k, hk, rfl, hall⟩ := hrel
          by_cases hlt : k < s.length
          · have H1 := Lib.hid fun W => refIn_any s[k] W
            have Hn := Lib.hid (Tok.all_next hlt Tok.inB hall)
            have Hb := Lib.hid (show Tok.inB s[k] = false → s.all Tok.inB = false from fun h => List.all_eq_false.2 ⟨s[k], List.getElem_mem hlt, by rw [h]; simp⟩)
            clear hall
            rcases h1 : Tok.inB s[k] with _ | _
            · rw [h1] at H1
              have HR := Lib.hid (HI.out.trans (Hb.out h1))
              clear h1 HI Hb Hn
              go_wp2_with fail
              refine (H1.out _).mono ?_
              rintro e w2 ⟨rfl, rfl⟩
              go_wp2
              go_ret
              exact ⟨by rw [HR.out]; rfl, hbel⟩
            · rw [h1] at H1
              have HH := Lib.hid (Hn.out h1)
              clear h1 Hb Hn
              go_wp2_with fail
              refine (H1.out _).mono ?_
              rintro e w2 ⟨rfl, rfl⟩
              go_wp2
              go_round
              case rel => exact ⟨k + 1, by omega, by go_num, HH.out⟩
              case measure => simp [intOf]; omega
          · have HR : Hid (Tok.is s = true) := Lib.hid (by
              rw [HI.out]
              rwa [List.take_of_length_le (by omega)] at hall)
            clear hall HI
            go_wp2
            go_ret
            exact ⟨by rw [HR.out]; rfl, hbel⟩
      · have HR := Lib.hid (Tok.is_caps hl)
        have hne : (Tok.lower s == s) = false := by simpa using hl
        have hne2 : ¬ (Tok.lower s).toArray = s.toArray := fun h => hl (by simpa using congrArg Array.toList h)
        clear hl
        generalize Tok.lower s = t at *
        go_enter Try.func19, Try.ntmps19
        go_wp2_with fail
        refine C.out.mono ?_
        rintro e w1 ⟨rfl, hbel⟩
        clear C
        go_wp2
        go_ret
        exact ⟨by rw [HR.out]; rfl, hbel⟩
    · have h64' : (64 : Int) < (s.length : Int) := by omega
      have HR := Lib.hid (show Tok.is s = false from by unfold Tok.is; simp; omega)
      go_enter Try.func19, Try.ntmps19
      go_wp2
      go_ret
      exact ⟨by rw [HR.out]; rfl, Below.refl _ _⟩
  · have hpos' : (s.length : Int) < 1 := by omega
    have HR := Lib.hid (show Tok.is s = false from by unfold Tok.is; simp; omega)
    go_enter Try.func19, Try.ntmps19
    go_wp2
    go_ret
    exact ⟨by rw [HR.out]; rfl, Below.refl _ _⟩
end Go.Proofs.Ytahcmpmfknmecaa
