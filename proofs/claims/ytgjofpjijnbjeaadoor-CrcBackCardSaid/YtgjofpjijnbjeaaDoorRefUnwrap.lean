/- dragnetref01.Unwrap. -/
import Derived.Test.YtgjofpjijnbjeaaDoorRefFirst
namespace Go.Proofs.YtgjofpjijnbjeaaDoor
open Go.RowKit

/-- what Unwrap answers behind First, where the bytes hold no more than the frame -/
theorem unwrap_of_first {w : World} {q : Nat} {l : List UInt8} {e : Ending} {w' : World} (hne : ¬ (sizeErr l = 0 ∧ word l + 8 < l.length)) (h : FirstPost (w.drewN q) l e w') :
    Below w.heap.size w w' ∧ ((unwrapErr l ≠ 0 ∧ e = .returned (.tuple #[.slice none 0 0, .int .i64 0, .int .i64 ((unwrapErr l : Nat) : Int)])) ∨
    (unwrapErr l = 0 ∧ ∃ A c, e = .returned (.tuple #[.slice A (word l) c, .int .i64 ((word l : Nat) + 8 : Int), .int .i64 0]) ∧ Own w' w.heap.size A (word l) c (pay l))) := by
  have e1 : unwrapErr l = frameErr l := by
    unfold unwrapErr frameErr
    by_cases hs : sizeErr l = 0
    · simp only [hs, ne_eq, not_true_eq_false, if_false]
      rw [if_neg (fun h => hne ⟨hs, h⟩)]
    · simp only [ne_eq, hs, not_false_eq_true, if_true]
  rw [e1]
  exact ⟨below_of_drewN h.1, h.2⟩

set_option maxHeartbeats 400000 in
theorem refUnwrap_any (A : Option Addr) (n cap B : Nat) (l : List UInt8) (w : World) (hl : l.length = n) (hm : n ≤ 140737488355328) (hcap : n ≤ cap) (hb : Bytes w B A l) (hB : B ≤ w.heap.size) :
    Calls Tryd.prog 21 #[.slice A n cap] w (UnwrapPost w l) := by
  have hF := fun q => Lib.hid (refFirst_any A n cap B l (w.drewN q) hl hm hcap (hb.drewN q) hB)
  have hlt := word_lt l
  by_cases h8 : n < 8
  · have hne : ¬ (sizeErr l = 0 ∧ word l + 8 < l.length) := fun h => by have := sizeErr_zero h.1; omega
    have hP : ∀ e w', FirstPost (w.drewN 0) l e w' → _ := fun e w' h => unwrap_of_first hne h
    have HP := Lib.hid hP; clear hP hne hb hl
    have hd : decide ((8 : Int) ≤ (n : Int)) = false := by simp; omega
    go_enter Tryd.func21, Tryd.ntmps21
    go_wp2_with fail
    refine (hF 0).out.mono ?_
    intro e w' h
    obtain ⟨hbel, ⟨hne, rfl⟩ | ⟨h0, A1, c1, rfl, ho⟩⟩ := HP.out e w' h
    · clear hF h
      have Hne := Lib.hid hne; clear hne
      go_wp2
      go_ret2
      exact ⟨hbel, .inl ⟨Hne.out, rfl⟩⟩
    · clear hF h
      have H0 := Lib.hid h0; clear h0
      go_wp2
      go_ret2
      exact ⟨hbel, .inr ⟨H0.out, A1, c1, rfl, ho⟩⟩
  · have hL := fun q => Lib.hid (length_any A n cap B l (w.drewN q) hl (by omega) hm (hb.drewN q))
    have hd8 : decide ((8 : Int) ≤ (n : Int)) = true := by simp; omega
    by_cases hlong : word l + 8 < n
    · have hd9 : decide (((word l : Nat) : Int) < (n : Int) - 8) = true := by simp; omega
      by_cases h24 : word l ≤ 16777216
      · have hE : unwrapErr l = 2 := by
          have hs : sizeErr l = 0 := by unfold sizeErr; rw [if_neg (by omega), if_neg (by omega), if_neg (by omega)]
          unfold unwrapErr
          rw [if_neg (by omega), if_pos (by omega)]
        have HE := Lib.hid hE
        clear hE hb hl hF
        generalize word l = k at *
        go_enter Tryd.func21, Tryd.ntmps21
        go_wp2_with fail
        refine (hL 0).out.mono ?_
        rintro e w1 ⟨rfl, q, rfl⟩
        go_wp2_with fail
        refine (hL q).out.mono ?_
        rintro e w1 ⟨rfl, q1, rfl⟩
        clear hL
        go_wp2
        go_ret2
        refine ⟨below_drewN (Below.refl _ _) _, .inl ⟨by rw [HE.out]; omega, ?_⟩⟩
        rw [HE.out]
        rfl
      · have hne : ¬ (sizeErr l = 0 ∧ word l + 8 < l.length) := fun h => by have := sizeErr_zero h.1; omega
        have hP : ∀ q e w', FirstPost (w.drewN q) l e w' → _ := fun q e w' h => unwrap_of_first hne h
        have HP := Lib.hid hP; clear hP hne hb hl
        have hd10 : decide (((word l : Nat) : Int) ≤ 16777216) = false := by simp; omega
        generalize hk : word l = k at *
        have Hk := Lib.hid hk; clear hk
        go_enter Tryd.func21, Tryd.ntmps21
        go_wp2_with fail
        refine (hL 0).out.mono ?_
        rintro e w1 ⟨rfl, q, rfl⟩
        go_wp2_with fail
        refine (hL q).out.mono ?_
        rintro e w1 ⟨rfl, q1, rfl⟩
        go_wp2_with fail
        refine (hF (q + q1)).out.mono ?_
        intro e w' h
        obtain ⟨hbel, ⟨hne, rfl⟩ | ⟨h0, A1, c1, rfl, ho⟩⟩ := HP.out _ e w' h
        · clear hF h
          have Hne := Lib.hid hne; clear hne
          go_wp2
          go_ret2
          exact ⟨hbel, .inl ⟨Hne.out, rfl⟩⟩
        · clear hF h
          have H0 := Lib.hid h0; clear h0
          go_wp2
          go_ret2
          exact ⟨hbel, .inr ⟨H0.out, A1, c1, by rw [Hk.out]; rfl, by rw [Hk.out]; exact ho⟩⟩
    · have hne : ¬ (sizeErr l = 0 ∧ word l + 8 < l.length) := fun h => by omega
      have hP : ∀ q e w', FirstPost (w.drewN q) l e w' → _ := fun q e w' h => unwrap_of_first hne h
      have HP := Lib.hid hP; clear hP hne hb hl
      have hd9 : decide (((word l : Nat) : Int) < (n : Int) - 8) = false := by simp; omega
      generalize hk : word l = k at *
      have Hk := Lib.hid hk; clear hk
      go_enter Tryd.func21, Tryd.ntmps21
      go_wp2_with fail
      refine (hL 0).out.mono ?_
      rintro e w1 ⟨rfl, q, rfl⟩
      go_wp2_with fail
      refine (hF q).out.mono ?_
      intro e w' h
      obtain ⟨hbel, ⟨hne, rfl⟩ | ⟨h0, A1, c1, rfl, ho⟩⟩ := HP.out _ e w' h
      · clear hF h
        have Hne := Lib.hid hne; clear hne
        go_wp2
        go_ret2
        exact ⟨hbel, .inl ⟨Hne.out, rfl⟩⟩
      · clear hF h
        have H0 := Lib.hid h0; clear h0
        go_wp2
        go_ret2
        exact ⟨hbel, .inr ⟨H0.out, A1, c1, by rw [Hk.out]; rfl, by rw [Hk.out]; exact ho⟩⟩
end Go.Proofs.YtgjofpjijnbjeaaDoor
