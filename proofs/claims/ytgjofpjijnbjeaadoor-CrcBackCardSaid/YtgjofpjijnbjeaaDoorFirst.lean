/- crc.First and crc.Unwrap. -/
import Derived.Test.YtgjofpjijnbjeaaDoorPayload
namespace Go.Proofs.YtgjofpjijnbjeaaDoor
open Go.RowKit

/-- is the checksum right of the frame that l begins with? -/
def sumOk (l : List UInt8) : Prop := Plain.sum (l.take (word l + 4)) = word (l.drop (word l + 4))
instance (l : List UInt8) : Decidable (sumOk l) := inferInstanceAs (Decidable (_ = _))
/-- what is wrong with the frame that l begins with; 0: nothing -/
def frameErr (l : List UInt8) : Nat := if sizeErr l ≠ 0 then sizeErr l else if sumOk l then 0 else 4
/-- what the frame holds that l begins with -/
def pay (l : List UInt8) : List UInt8 := (l.drop 4).take (word l)
theorem frameErr_zero {l : List UInt8} (h : frameErr l = 0) : sizeErr l = 0 ∧ sumOk l := by
  unfold frameErr at h
  split at h
  · contradiction
  · rename_i h0
    split at h
    · rename_i h1; exact ⟨by omega, h1⟩
    · cases h
theorem frameErr_lt (l : List UInt8) : frameErr l < 6 := by
  unfold frameErr sizeErr
  repeat' split
  all_goals omega
theorem pay_length {l : List UInt8} (h : sizeErr l = 0) : (pay l).length = word l := by
  obtain ⟨h1, h2, h3⟩ := sizeErr_zero h
  simp [pay]
  omega

/-- how the first frame is told: its error, or its payload, in new memory, and its size -/
def FirstPost (w : World) (l : List UInt8) (e : Ending) (w' : World) : Prop :=
  Below w.heap.size w w' ∧ ((frameErr l ≠ 0 ∧ e = .returned (.tuple #[.slice none 0 0, .int .i64 0, .int .i64 ((frameErr l : Nat) : Int)])) ∨
    (frameErr l = 0 ∧ ∃ A c, e = .returned (.tuple #[.slice A (word l) c, .int .i64 ((word l : Nat) + 8 : Int), .int .i64 0]) ∧ Own w' w.heap.size A (word l) c (pay l)))

theorem nonzero {x : Nat} (h : x ≠ 0) : ((x : Int) != 0) = true := by rw [bne_iff_ne]; omega

theorem Bytes.some_ {w : World} {B : Nat} {A : Option Addr} {l : List UInt8} (h : Bytes w B A l) (hl : 0 < l.length) : ∃ ad, A = some ad := by
  obtain ⟨ad, ha, _⟩ := h (fun e => by subst e; simp at hl)
  exact ⟨ad, ha⟩

set_option maxHeartbeats 400000 in
theorem first_any (A : Option Addr) (n cap B : Nat) (l : List UInt8) (w : World) (hl : l.length = n) (hm : n ≤ 140737488355328) (hcap : n ≤ cap) (hb : Bytes w B A l) (hB : B ≤ w.heap.size) (ht : Table w) :
    Calls Tryd.prog 18 #[.slice A n cap] w (FirstPost w l) := by
  by_cases hs : sizeErr l = 0
  · obtain ⟨h1, h2, h3⟩ := sizeErr_zero hs
    obtain ⟨ad, rfl⟩ := hb.some_ (by omega)
    have hF := Lib.hid (frameSize_ok (some ad) n cap B l w hl hm hb hs)
    have htake : (l.take (word l + 8)).take (word l + 4) = l.take (word l + 4) := by rw [List.take_take]; congr 1; omega
    have hdrop : word ((l.take (word l + 8)).drop (word l + 4)) = word (l.drop (word l + 4)) := by rw [List.drop_take, show word l + 8 - (word l + 4) = 4 from by omega, word_take _ 4 (by omega)]
    have hpay : ((l.take (word l + 8)).drop 4).take (word l) = pay l := by rw [List.drop_take, List.take_take, pay]; congr 1; omega
    have hlen : (l.take (word l + 8)).length = word l + 8 := by simp; omega
    have hcut := hb.take (word l + 8)
    have Hl := Lib.hid hl
    by_cases hok : sumOk l
    · have hE : frameErr l = 0 := by unfold frameErr; rw [if_neg (by omega), if_pos hok]
      have hP := fun q => Lib.hid (payload_ok ad (word l) cap B (l.take (word l + 8)) (w.drewN q) hlen h2 (by omega) (hcut.drewN q) hB (ht.drewN q) (by rw [htake, hdrop]; exact hok))
      rw [hpay] at hP
      have HE := Lib.hid hE
      rw [hl] at h1 h3
      clear hb ht hl hcut htake hdrop hpay hlen hE hok hs Hl
      generalize hk : word l = k at *
      have Hk := Lib.hid hk; clear hk
      generalize hp : pay l = p at *
      have Hp := Lib.hid hp; clear hp
      go_enter Tryd.func18, Tryd.ntmps18
      go_wp2_with fail
      refine hF.out.mono ?_
      rintro e w1 ⟨rfl, q, rfl⟩
      go_wp2_with fail
      refine (hP q).out.mono ?_
      rintro e w1 ⟨A1, c1, rfl, ho1, hb1⟩
      clear hP hF
      go_wp2
      go_ret3
      refine ⟨below_of_drewN hb1, .inr ⟨HE.out, A1, c1, ?_, ?_⟩⟩
      · rw [Hk.out]; rfl
      · rw [Hk.out, Hp.out]; exact ho1
    · have hE : frameErr l = 4 := by unfold frameErr; rw [if_neg (by omega), if_neg hok]
      have hP := fun q => Lib.hid (payload_bad ad (word l + 4) cap B (l.take (word l + 8)) (w.drewN q) hlen (by omega) (by omega) (hcut.drewN q) (ht.drewN q) (by rw [htake, hdrop]; exact hok))
      have HE := Lib.hid hE
      rw [hl] at h1 h3
      clear hb ht hl hcut htake hdrop hpay hlen hE hok hs Hl
      generalize hk : word l = k at *
      clear hk
      go_enter Tryd.func18, Tryd.ntmps18
      go_wp2_with fail
      refine hF.out.mono ?_
      rintro e w1 ⟨rfl, q, rfl⟩
      go_wp2_with fail
      refine (hP q).out.mono ?_
      rintro e w1 ⟨rfl, q1, rfl⟩
      clear hP hF
      go_wp2
      go_ret3
      refine ⟨below_drewN (Below.refl _ _) _, .inl ⟨by rw [HE.out]; omega, ?_⟩⟩
      rw [HE.out]
      rfl
  · have hE : frameErr l = sizeErr l := by unfold frameErr; rw [if_pos hs]
    have hF := Lib.hid (frameSize_err A n cap B l w hl hm hb hs)
    have hfin : frameErr l ≠ 0 := by rw [hE]; exact hs
    have HE := Lib.hid hE; clear hE
    have hz := nonzero hs
    have hnz := hs
    clear hb ht hl
    have Hfin := Lib.hid hfin; clear hfin hs
    go_enter Tryd.func18, Tryd.ntmps18
    go_wp2_with fail
    refine hF.out.mono ?_
    rintro e w1 ⟨rfl, q, rfl⟩
    clear hF
    go_wp2
    go_ret3
    refine ⟨below_drewN (Below.refl _ _) q, .inl ⟨Hfin.out, ?_⟩⟩
    rw [HE.out]
    rfl
end Go.Proofs.YtgjofpjijnbjeaaDoor
