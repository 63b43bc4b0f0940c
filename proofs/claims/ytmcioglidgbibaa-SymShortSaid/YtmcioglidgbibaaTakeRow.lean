/- num.TakeRow and the document's. -/
import Derived.Test.YtmcioglidgbibaaTake
import Derived.Test.YtmcioglidgbibaaRefTake
import Derived.Test.YtmcioglidgbibaaRefRow
import Derived.Test.YtmcioglidgbibaaClone
namespace Go.Proofs.Ytmcioglidgbibaa
open Go.RowKit
set_option maxRecDepth 100000

/-- the row that bytes begin with: it, its size, its error -/
def Num.takeRow (l : List UInt8) (most : Int) : List UInt8 × Nat × Nat :=
  if most < 0 then ([], 0, 1) else if (Num.take l).2.2 = 0 then
    if most < ((Num.take l).1 : Int) then ([], 0, 5) else if l.length < (Num.take l).2.1 + (Num.take l).1 then ([], 0, 3)
    else ((l.drop (Num.take l).2.1).take (Num.take l).1, (Num.take l).2.1 + (Num.take l).1, 0)
  else ([], 0, (Num.take l).2.2)

theorem Num.takeRow_le (l : List UInt8) (most : Int) : (Num.takeRow l most).1.length ≤ l.length := by
  unfold Num.takeRow
  split
  · simp
  · split
    · split
      · simp
      · split
        · simp
        · simp only [List.length_take, List.length_drop]; omega
    · simp

/-- what a call leaves that returns a row in new memory, its size, its error -/
def RowPost (w : World) (R : List UInt8 × Nat × Nat) (e : Ending) (w' : World) : Prop :=
  ∃ A c, e = .returned (.tuple #[.slice A R.1.length c, .int .i64 (R.2.1 : Int), .int .i64 (R.2.2 : Int)]) ∧ Own w' w.heap.size A R.1.length c R.1 ∧ Below w.heap.size w w'
theorem RowPost.none {w w' : World} (e : Nat) (hb : Below w.heap.size w w') : RowPost w ([], 0, e) (.returned (.tuple #[.slice none 0 0, .int .i64 0, .int .i64 (e : Int)])) w' :=
  ⟨.none, 0, rfl, World.ownsRow_nil w' _ _ _, hb⟩

set_option maxHeartbeats 1000000 in
theorem takeRow_any (A : Option Addr) (n cap B : Nat) (l : List UInt8) (most : Int) (w : World) (hl : l.length = n) (hcap : n ≤ cap) (hm : n ≤ 140737488355328) (hb : Bytes w B A l) (hB : B ≤ w.heap.size)
    (h0 : -9223372036854775808 ≤ most) (h1 : most ≤ 9223372036854775807) :
    Calls Try.prog 45 #[.slice A n cap, .int .i64 most] w (RowPost w (Num.takeRow l most)) := by
  by_cases hneg : most < 0
  · have hR : Num.takeRow l most = ([], 0, 1) := by unfold Num.takeRow; rw [if_pos hneg]
    rw [hR]
    clear hR hb
    go_enter Try.func45, Try.ntmps45
    go_wp2
    go_ret3
    exact RowPost.none 1 (Below.refl _ _)
  · have hneg' : 0 ≤ most := by omega
    have H1 := take_any A n cap B l w hl hcap (by omega) hb
    unfold TakePost at H1
    rcases Num.take_cases l with ⟨v, s, ht⟩ | ⟨e, ht, he⟩
    · obtain ⟨_, hs, hsn, hv⟩ := Num.num_take ht
      have hs9 : s ≤ 9 := by rw [hs]; exact Num.size_le9 hv
      have hs1 : 1 ≤ s := by rw [hs]; exact Num.size_pos v
      rw [hl] at hsn
      rw [ht] at H1
      simp only at H1
      obtain ⟨x, hx, hx0, hx1⟩ : ∃ x : Int, x = (v : Int) ∧ 0 ≤ x ∧ x ≤ 18446744073709551615 := ⟨v, rfl, by omega, by omega⟩
      rw [← hx] at H1
      replace H1 := Lib.hid H1
      by_cases hlong : most < x
      · have hR : Num.takeRow l most = ([], 0, 5) := by unfold Num.takeRow; rw [if_neg hneg, ht, if_pos rfl, if_pos (by rw [← hx]; exact hlong)]
        rw [hR]
        clear hR hb hs hv hx ht hl
        go_enter Try.func45, Try.ntmps45
        go_wp2_with fail
        refine H1.out.mono ?_
        rintro e w1 ⟨rfl, rfl⟩
        clear H1
        go_wp2
        go_ret3
        exact RowPost.none 5 (Below.refl _ _)
      · by_cases hshort : n < s + v
        · have hR : Num.takeRow l most = ([], 0, 3) := by unfold Num.takeRow; rw [if_neg hneg, ht, if_pos rfl, if_neg (by rw [← hx]; exact hlong), if_pos (by rw [hl]; exact hshort)]
          rw [hR]
          have hshort' : (n : Int) - (s : Int) < x := by omega
          clear hR hb hs hv hx ht hl hshort
          go_enter Try.func45, Try.ntmps45
          go_wp2_with fail
          refine H1.out.mono ?_
          rintro e w1 ⟨rfl, rfl⟩
          clear H1
          go_wp2
          go_ret3
          exact RowPost.none 3 (Below.refl _ _)
        · have hR : Num.takeRow l most = ((l.drop s).take v, s + v, 0) := by unfold Num.takeRow; rw [if_neg hneg, ht, if_pos rfl, if_neg (by rw [← hx]; exact hlong), if_neg (by rw [hl]; exact hshort)]
          rw [hR]
          have hbc := (hb.cut (k := s) (cap := cap) (by omega) (by omega)).take v
          have hlen : ((l.drop s).take v).length = v := by simp; omega
          have hsl := run_cut_lh A n cap s (s + v) (by omega) (by omega)
          rw [show s + v - s = v from by omega, show ((s + v : Nat) : Int) = (s : Int) + x from by omega] at hsl
          have H2 := Lib.hid (clone_all (cutAt A cap s) v (cap - s) B _ w hlen (by omega) hbc hB)
          generalize cutAt A cap s = A' at *
          have Hsz := Lib.hid (show ((s + v : Nat) : Int) = (s : Int) + x from by omega)
          have hxn : (s : Int) + x ≤ n := by omega
          have Hlen := Lib.hid hlen
          clear hR hb hs hv hx ht hl hshort hlen hbc
          generalize (l.drop s).take v = t at *
          go_enter Try.func45, Try.ntmps45
          go_wp2_with fail
          refine H1.out.mono ?_
          rintro e w1 ⟨rfl, rfl⟩
          clear H1
          go_wp2_with fail
          refine H2.out.mono ?_
          rintro e w1 ⟨A1, c1, rfl, ho, hbl⟩
          clear H2 hsl
          go_wp2
          go_ret3
          refine ⟨A1, c1, ?_, ?_, hbl⟩
          · rw [Hlen.out, Hsz.out]; rfl
          · rw [Hlen.out]; exact ho
    · have hR : Num.takeRow l most = ([], 0, e) := by unfold Num.takeRow; rw [if_neg hneg, ht, if_neg (by simp only; omega)]
      rw [hR]
      rw [ht] at H1
      simp only at H1
      replace H1 := Lib.hid H1
      have he1 : ¬ ((e : Int) = 0) := by omega
      clear hR hb he ht hl
      go_enter Try.func45, Try.ntmps45
      go_wp2_with fail
      refine H1.out.mono ?_
      rintro e w1 ⟨rfl, rfl⟩
      clear H1
      go_wp2
      go_ret3
      exact RowPost.none _ (Below.refl _ _)

set_option maxHeartbeats 1000000 in
theorem refTakeRow_any (A : Option Addr) (n cap B : Nat) (l : List UInt8) (most : Int) (w : World) (hl : l.length = n) (hcap : n ≤ cap) (hm : n ≤ 140737488355328) (hb : Bytes w B A l) (hB : B ≤ w.heap.size)
    (h0 : -9223372036854775808 ≤ most) (h1 : most ≤ 9223372036854775807) :
    Calls Try.prog 60 #[.slice A n cap, .int .i64 most] w (RowPost w (Num.takeRow l most)) := by
  by_cases hneg : most < 0
  · have hR : Num.takeRow l most = ([], 0, 1) := by unfold Num.takeRow; rw [if_pos hneg]
    rw [hR]
    clear hR hb
    go_enter Try.func60, Try.ntmps60
    go_wp2
    go_ret3
    exact RowPost.none 1 (Below.refl _ _)
  · have hneg' : 0 ≤ most := by omega
    have H1 := refTake_any A n cap B l w hl (by omega) hb
    unfold RefTakePost at H1
    rcases Num.take_cases l with ⟨v, s, ht⟩ | ⟨e, ht, he⟩
    · obtain ⟨_, hs, hsn, hv⟩ := Num.num_take ht
      have hs9 : s ≤ 9 := by rw [hs]; exact Num.size_le9 hv
      have hs1 : 1 ≤ s := by rw [hs]; exact Num.size_pos v
      rw [hl] at hsn
      rw [ht] at H1
      simp only at H1
      obtain ⟨x, hx, hx0, hx1⟩ : ∃ x : Int, x = (v : Int) ∧ 0 ≤ x ∧ x ≤ 18446744073709551615 := ⟨v, rfl, by omega, by omega⟩
      rw [← hx] at H1
      replace H1 := Lib.hid H1
      by_cases hlong : most < x
      · have hR : Num.takeRow l most = ([], 0, 5) := by unfold Num.takeRow; rw [if_neg hneg, ht, if_pos rfl, if_pos (by rw [← hx]; exact hlong)]
        rw [hR]
        clear hR hb hs hv hx ht hl
        go_enter Try.func60, Try.ntmps60
        go_wp2_with fail
        refine H1.out.mono ?_
        rintro e w1 ⟨rfl, hb1⟩
        clear H1
        go_wp2
        go_ret3
        exact RowPost.none 5 hb1
      · by_cases hshort : n < s + v
        · have hR : Num.takeRow l most = ([], 0, 3) := by unfold Num.takeRow; rw [if_neg hneg, ht, if_pos rfl, if_neg (by rw [← hx]; exact hlong), if_pos (by rw [hl]; exact hshort)]
          rw [hR]
          have hshort' : (n : Int) - (s : Int) < x := by omega
          clear hR hb hs hv hx ht hl hshort
          go_enter Try.func60, Try.ntmps60
          go_wp2_with fail
          refine H1.out.mono ?_
          rintro e w1 ⟨rfl, hb1⟩
          clear H1
          go_wp2
          go_ret3
          exact RowPost.none 3 hb1
        · have hR : Num.takeRow l most = ((l.drop s).take v, s + v, 0) := by unfold Num.takeRow; rw [if_neg hneg, ht, if_pos rfl, if_neg (by rw [← hx]; exact hlong), if_neg (by rw [hl]; exact hshort)]
          rw [hR]
          have hbc := (hb.cut (k := s) (cap := cap) (by omega) (by omega)).take v
          have hlen : ((l.drop s).take v).length = v := by simp; omega
          have hsl := run_cut_lh A n cap s (s + v) (by omega) (by omega)
          rw [show s + v - s = v from by omega, show ((s + v : Nat) : Int) = (s : Int) + x from by omega] at hsl
          have H2 := Lib.hid fun (w1 : World) (h : Below w.heap.size w w1) => copy_any (cutAt A cap s) v (cap - s) w.heap.size _ w1 hlen (by omega) ((hbc.wide hB).below h) h.size
          generalize cutAt A cap s = A' at *
          have Hsz := Lib.hid (show ((s + v : Nat) : Int) = (s : Int) + x from by omega)
          have hxn : (s : Int) + x ≤ n := by omega
          have Hlen := Lib.hid hlen
          clear hR hb hs hv hx ht hl hshort hlen hbc
          generalize (l.drop s).take v = t at *
          go_enter Try.func60, Try.ntmps60
          go_wp2_with fail
          refine H1.out.mono ?_
          rintro e w1 ⟨rfl, hb1⟩
          clear H1
          go_wp2_with fail
          refine (H2.out w1 hb1).mono ?_
          rintro e w2 ⟨A1, c1, rfl, ho, hbl⟩
          clear H2 hsl
          go_wp2
          go_ret3
          refine ⟨A1, c1, ?_, ?_, hb1.trans (hbl.mono hb1.size)⟩
          · rw [Hlen.out, Hsz.out]; rfl
          · rw [Hlen.out]; exact ho.low hb1.size
    · have hR : Num.takeRow l most = ([], 0, e) := by unfold Num.takeRow; rw [if_neg hneg, ht, if_neg (by simp only; omega)]
      rw [hR]
      rw [ht] at H1
      simp only at H1
      replace H1 := Lib.hid H1
      have he1 : ¬ ((e : Int) = 0) := by omega
      clear hR hb he ht hl
      go_enter Try.func60, Try.ntmps60
      go_wp2_with fail
      refine H1.out.mono ?_
      rintro e w1 ⟨rfl, hb1⟩
      clear H1
      go_wp2
      go_ret3
      exact RowPost.none _ hb1
end Go.Proofs.Ytmcioglidgbibaa
