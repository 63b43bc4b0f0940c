/- dragnetref01.First: the document's first frame. -/
import Derived.Test.YtgjofpjijnbjeaaDoorUnwrap
import Derived.Deep.RegionWith
namespace Go.Proofs.YtgjofpjijnbjeaaDoor
open Go.RowKit

theorem ofNat_toNat (b : UInt8) : UInt8.ofNat b.toNat = b := by simp
theorem four_word {l : List UInt8} (h : 4 ≤ l.length) : four (word l) = l.take 4 := by
  match l, h with
  | a :: b :: c :: d :: r, _ =>
    have ha := Plain.byte_lt a
    have hb := Plain.byte_lt b
    have hc := Plain.byte_lt c
    have hd := Plain.byte_lt d
    have e : word (a :: b :: c :: d :: r) = a.toNat + b.toNat * 256 + c.toNat * 65536 + d.toNat * 16777216 := rfl
    have g : ∀ (x : Nat) (y : UInt8), x % 256 = y.toNat → UInt8.ofNat x = y := fun x y h => by
      apply UInt8.toNat_inj.1
      rw [UInt8.toNat_ofNat']
      exact h
    unfold four
    rw [e, g _ a (by omega), g _ b (by omega), g _ c (by omega), g _ d (by omega)]
    rfl
theorem word_four (x : Nat) (h : x < 4294967296) (r : List UInt8) : word (four x ++ r) = x := by
  have e : word (four x ++ r) = (UInt8.ofNat x).toNat + (UInt8.ofNat (x / 256)).toNat * 256 + (UInt8.ofNat (x / 65536)).toNat * 65536 + (UInt8.ofNat (x / 16777216)).toNat * 16777216 := rfl
  rw [e]
  simp only [UInt8.toNat_ofNat']
  omega
theorem four_inj {x y : Nat} (hx : x < 4294967296) (hy : y < 4294967296) (h : four x = four y) : x = y := by
  have h1 := word_four x hx []
  have h2 := word_four y hy []
  rw [h] at h1
  omega

/-- the frame's head and its payload -/
theorem head_pay {l : List UInt8} (h : sizeErr l = 0) : four (pay l).length ++ pay l = l.take (word l + 4) := by
  obtain ⟨h1, h2, h3⟩ := sizeErr_zero h
  rw [pay_length h, four_word (by omega), pay, Nat.add_comm (word l) 4]
  exact (List.take_add (i := 4) (j := word l) (l := l)).symm
theorem tail_four {l : List UInt8} (h : sizeErr l = 0) : l.take (word l + 8) = l.take (word l + 4) ++ four (word (l.drop (word l + 4))) := by
  obtain ⟨h1, h2, h3⟩ := sizeErr_zero h
  rw [four_word (by simp; omega)]
  exact (List.take_add (i := word l + 4) (j := 4) (l := l))
theorem frame_pay {l : List UInt8} (h : sizeErr l = 0) : frame (pay l) = l.take (word l + 8) ↔ sumOk l := by
  rw [tail_four h]
  unfold frame
  rw [head_pay h, List.append_cancel_left_eq]
  unfold sumOk
  exact ⟨fun hf => four_inj (Plain.sum_lt _) (word_lt _) hf, fun hf => by rw [hf]⟩

set_option maxHeartbeats 400000 in
theorem refFirst_err (A : Option Addr) (n cap B : Nat) (l : List UInt8) (w : World) (hl : l.length = n) (hm : n ≤ 140737488355328) (hb : Bytes w B A l) (he : sizeErr l ≠ 0) :
    Calls Tryd.prog 19 #[.slice A n cap] w (FirstPost w l) := by
  have hE : frameErr l = sizeErr l := by unfold frameErr; rw [if_pos he]
  have hfin : frameErr l ≠ 0 := by rw [hE]; exact he
  have fin : ∀ (x : Nat) (q : Nat), sizeErr l = x → FirstPost w l (.returned (.tuple #[.slice none 0 0, .int .i64 0, .int .i64 (x : Int)])) (w.drewN q) := fun x q hx =>
    ⟨below_drewN (Below.refl _ _) q, .inl ⟨hfin, by rw [hE, hx]⟩⟩
  have Fin := Lib.hid fin; clear fin hE hfin
  by_cases h8 : n < 8
  · have hE : sizeErr l = 3 := by unfold sizeErr; rw [if_pos (by omega)]
    have HE := Lib.hid hE
    clear hE he hb hl
    go_enter Tryd.func19, Tryd.ntmps19
    go_wp2
    go_ret3
    exact Fin.out 3 0 HE.out
  · have H := Lib.hid (length_any A n cap B l w hl (by omega) hm hb)
    have hlt := word_lt l
    by_cases h24 : 16777216 < word l
    · have hE : sizeErr l = 5 := by unfold sizeErr; rw [if_neg (by omega), if_pos h24]
      have HE := Lib.hid hE
      clear hE he hl hb
      generalize word l = m at *
      go_enter Tryd.func19, Tryd.ntmps19
      go_wp2_with fail
      refine H.out.mono ?_
      rintro e w1 ⟨rfl, q, rfl⟩
      clear H
      go_wp2
      go_ret3
      exact Fin.out 5 q HE.out
    · by_cases hs : n < word l + 8
      · have hE : sizeErr l = 3 := by unfold sizeErr; rw [if_neg (by omega), if_neg h24, if_pos (by omega)]
        have HE := Lib.hid hE
        clear hE he hl hb
        generalize word l = m at *
        go_enter Tryd.func19, Tryd.ntmps19
        go_wp2_with fail
        refine H.out.mono ?_
        rintro e w1 ⟨rfl, q, rfl⟩
        clear H
        go_wp2
        go_ret3
        exact Fin.out 3 q HE.out
      · exact absurd (by unfold sizeErr; rw [if_neg (by omega), if_neg h24, if_neg (by omega)]) he

end Go.Proofs.YtgjofpjijnbjeaaDoor
