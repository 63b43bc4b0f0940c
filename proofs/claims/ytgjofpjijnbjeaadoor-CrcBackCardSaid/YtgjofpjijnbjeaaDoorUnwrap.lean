/- crc.Unwrap. -/
import Derived.Test.YtgjofpjijnbjeaaDoorFirst
namespace Go.Proofs.YtgjofpjijnbjeaaDoor
open Go.RowKit

/-- what is wrong with bytes that should be one frame; 0: nothing -/
def unwrapErr (l : List UInt8) : Nat := if sizeErr l ≠ 0 then sizeErr l else if word l + 8 < l.length then 2 else if sumOk l then 0 else 4
theorem unwrapErr_zero {l : List UInt8} (h : unwrapErr l = 0) : sizeErr l = 0 ∧ l.length = word l + 8 ∧ sumOk l := by
  unfold unwrapErr at h
  split at h
  · contradiction
  · rename_i h0
    have h0' : sizeErr l = 0 := by omega
    have := sizeErr_zero h0'
    split at h
    · cases h
    · split at h
      · rename_i h1; exact ⟨h0', by omega, h1⟩
      · cases h
theorem unwrapErr_lt (l : List UInt8) : unwrapErr l < 6 := by
  unfold unwrapErr sizeErr
  repeat' split
  all_goals omega

def UnwrapPost (w : World) (l : List UInt8) (e : Ending) (w' : World) : Prop :=
  Below w.heap.size w w' ∧ ((unwrapErr l ≠ 0 ∧ e = .returned (.tuple #[.slice none 0 0, .int .i64 ((unwrapErr l : Nat) : Int)])) ∨
    (unwrapErr l = 0 ∧ ∃ A c, e = .returned (.tuple #[.slice A (word l) c, .int .i64 0]) ∧ Own w' w.heap.size A (word l) c (pay l)))

set_option maxHeartbeats 400000 in
theorem unwrap_any (A : Option Addr) (n cap B : Nat) (l : List UInt8) (w : World) (hl : l.length = n) (hm : n ≤ 140737488355328) (hcap : n ≤ cap) (hb : Bytes w B A l) (hB : B ≤ w.heap.size) (ht : Table w) :
    Calls Tryd.prog 20 #[.slice A n cap] w (UnwrapPost w l) := by
  by_cases hs : sizeErr l = 0
  · obtain ⟨h1, h2, h3⟩ := sizeErr_zero hs
    obtain ⟨ad, rfl⟩ := hb.some_ (by omega)
    have hF := Lib.hid (frameSize_ok (some ad) n cap B l w hl hm hb hs)
    by_cases hform : word l + 8 < n
    · have hE : unwrapErr l = 2 := by unfold unwrapErr; rw [if_neg (by omega), if_pos (by omega)]
      have HE := Lib.hid hE
      clear hb ht hl hE hs h1 h3
      generalize hk : word l = k at *
      clear hk
      go_enter Tryd.func20, Tryd.ntmps20
      go_wp2_with fail
      refine hF.out.mono ?_
      rintro e w1 ⟨rfl, q, rfl⟩
      clear hF
      go_wp2
      go_ret2
      refine ⟨below_drewN (Below.refl _ _) _, .inl ⟨by rw [HE.out]; omega, ?_⟩⟩
      rw [HE.out]
      rfl
    · have hn : n = word l + 8 := by omega
      by_cases hok : sumOk l
      · have hE : unwrapErr l = 0 := by unfold unwrapErr; rw [if_neg (by omega), if_neg (by omega), if_pos hok]
        have hP := fun q => Lib.hid (payload_ok ad (word l) cap B l (w.drewN q) (by omega) h2 (by omega) (hb.drewN q) hB (ht.drewN q) hok)
        have HE := Lib.hid hE
        subst hn
        clear hb ht hl hE hok hs h1 h3
        change ∀ q, Hid (Calls _ _ _ _ fun e w' => ∃ A c, e = .returned (.tuple #[.slice A (word l) c, .int .i64 0]) ∧ Own w' _ A (word l) c (pay l) ∧ _) at hP
        generalize hk : word l = k at *
        have Hk := Lib.hid hk; clear hk
        generalize hp : pay l = p at *
        have Hp := Lib.hid hp; clear hp
        go_enter Tryd.func20, Tryd.ntmps20
        go_wp2_with fail
        refine hF.out.mono ?_
        rintro e w1 ⟨rfl, q, rfl⟩
        go_wp2_with fail
        refine (hP q).out.mono ?_
        rintro e w1 ⟨A1, c1, rfl, ho1, hb1⟩
        clear hP hF
        go_wp2
        go_ret2
        refine ⟨below_of_drewN hb1, .inr ⟨HE.out, A1, c1, ?_, ?_⟩⟩
        · rw [Hk.out]; rfl
        · rw [Hk.out, Hp.out]; exact ho1
      · have hE : unwrapErr l = 4 := by unfold unwrapErr; rw [if_neg (by omega), if_neg (by omega), if_neg hok]
        have hP := fun q => Lib.hid (payload_bad ad (word l + 4) cap B l (w.drewN q) (by omega) (by omega) (by omega) (hb.drewN q) (ht.drewN q) hok)
        have HE := Lib.hid hE
        subst hn
        clear hb ht hl hE hok hs h1 h3
        generalize hk : word l = k at *
        clear hk
        go_enter Tryd.func20, Tryd.ntmps20
        go_wp2_with fail
        refine hF.out.mono ?_
        rintro e w1 ⟨rfl, q, rfl⟩
        go_wp2_with fail
        refine (hP q).out.mono ?_
        rintro e w1 ⟨rfl, q1, rfl⟩
        clear hP hF
        go_wp2
        go_ret2
        refine ⟨below_drewN (Below.refl _ _) _, .inl ⟨by rw [HE.out]; omega, ?_⟩⟩
        rw [HE.out]
        rfl
  · have hE : unwrapErr l = sizeErr l := by unfold unwrapErr; rw [if_pos hs]
    have hF := Lib.hid (frameSize_err A n cap B l w hl hm hb hs)
    have hfin : unwrapErr l ≠ 0 := by rw [hE]; exact hs
    have HE := Lib.hid hE; clear hE
    have hz := nonzero hs
    have hnz := hs
    clear hb ht hl
    have Hfin := Lib.hid hfin; clear hfin hs
    go_enter Tryd.func20, Tryd.ntmps20
    go_wp2_with fail
    refine hF.out.mono ?_
    rintro e w1 ⟨rfl, q, rfl⟩
    clear hF
    go_wp2
    go_ret2
    refine ⟨below_drewN (Below.refl _ _) q, .inl ⟨Hfin.out, ?_⟩⟩
    rw [HE.out]
    rfl
end Go.Proofs.YtgjofpjijnbjeaaDoor
