/- The helpers of the laws on numbers: alive, spare, kept, behind. -/
import Derived.Test.YtpcmedaaggeliaaPut
import Derived.Test.YtpcmedaaggeliaaCuts
import Derived.Test.YtpcmedaaggeliaaBytesEq
namespace Go.Proofs.Ytpcmedaaggeliaa
open Go.RowKit

theorem num_256 : Num.num 256 = [249, 0, 1] := by decide
theorem size_256 : Num.size 256 = 3 := by decide

set_option maxHeartbeats 400000 in
theorem alive_any (w : World) : Calls Try.prog 9 #[] w fun e w' => e = .returned (.bool true) ∧ Below w.heap.size w w' := by
  have hone := own_one w 7 7 rfl
  have hbel : Below w.heap.size w (w.alloc (.cells #[.int .u8 7] 5)) := (Below.refl _ _).alloc (Nat.le_refl _) _
  have H := put_any _ 1 1 _ 256 [7] _ rfl (by omega) (by omega) hone.bytes (Nat.le_refl _)
  rw [size_256, num_256] at H
  replace H := Lib.hid H
  clear hone
  go_enter Try.func9, Try.ntmps9
  go_wp2_with fail
  refine H.out.mono ?_
  rintro e w1 ⟨g, c, rfl, ho, hb⟩
  clear H
  have c0 := ho.cell (k := 0) (by decide)
  have c1 := ho.cell (k := 1) (by decide)
  have c2 := ho.cell (k := 2) (by decide)
  have c3 := ho.cell (k := 3) (by decide)
  simp only [List.cons_append, List.nil_append, List.getElem_cons_zero, List.getElem_cons_succ] at c0 c1 c2 c3
  change w1.cell? ⟨g, 0, none⟩ = some (.int .u8 7) at c0
  change w1.cell? ⟨g, 1, none⟩ = some (.int .u8 249) at c1
  change w1.cell? ⟨g, 2, none⟩ = some (.int .u8 0) at c2
  change w1.cell? ⟨g, 3, none⟩ = some (.int .u8 1) at c3
  have hb' := hbel.trans (hb.mono hbel.size)
  clear ho hb hbel
  go_wp2
  go_ret
  exact ⟨rfl, hb'⟩

set_option maxHeartbeats 400000 in
theorem spare_any (A : Option Addr) (n cap B : Nat) (l : List UInt8) (w : World) (hl : l.length = n) (hn : n ≤ 140737488355328) (hb : Bytes w B A l) (hB : B ≤ w.heap.size) :
    Calls Try.prog 10 #[.slice A n cap] w fun e w' => ∃ g, e = .returned (.slice (some ⟨g, 0, none⟩) n (n + 20)) ∧ Own w' w.heap.size (some ⟨g, 0, none⟩) (n + 1) (n + 20) (l ++ [90]) ∧ Below w.heap.size w w' := by
  have Hl := Lib.hid hl; clear hl
  have hmk := run_make_bytes (n + 20) (by omega)
  rw [show ((n + 20 : Nat) : Int) = (n : Int) + 20 from by omega] at hmk
  have ho1 : Own (w.alloc (.cells (madeCells #[.int .u8 0] (n + 20)) 5)) w.heap.size (some ⟨w.heap.size, 0, none⟩) 0 (n + 20) [] :=
    own_made w w.heap.size _ (n + 20) (Nat.le_refl _) (by simp only [maxLen]; omega) (size_madeCells _ _)
  have hbel : Below w.heap.size w (w.alloc (.cells (madeCells #[.int .u8 0] (n + 20)) 5)) := (Below.refl _ _).alloc (Nat.le_refl _) _
  have hb1 := (hb.wide hB).below hbel
  clear hb
  go_enter Try.func10, Try.ntmps10
  go_wp2_with (at_builtin; first
    | (refine wpList_append_fit rfl (.tmp 6) (.tmp 7) rfl w.heap.size _ 0 (n + 20) [] rfl ho1 _ A n cap l rfl Hl.out hb1 (by omega) ?_
       intro w1 ho2 hg2
       rw [Nat.zero_add, List.nil_append] at ho2
       have hbw := hbel.grown hg2 (by simp) (fun k hk => by cases hk; exact Nat.le_refl _)
       have hone := (own_one w1 90 90 rfl).bytes
       have ho3 := ho2.alloc (.cells #[.int .u8 90] 5)
       have hbw3 : Below w.heap.size w (w1.alloc (.cells #[.int .u8 90] 5)) := hbw.alloc hbw.size _
       clear ho2 hg2 hb1 ho1 hbel hmk)
    | (refine wpList_append_fit rfl (.tmp 8) (.tmp 9) rfl w.heap.size _ n (n + 20) l rfl ho3 _ _ 1 1 [90] rfl rfl hone (by omega) ?_
       intro w2 ho4 hg4
       have hbw4 := hbw3.grown hg4 hbw3.size (fun k hk => by cases hk; exact Nat.le_refl _)
       have hcut := run_cut_h (some ⟨w.heap.size, 0, none⟩) (n + 1) (n + 20) n (by omega)))
  go_ret
  exact ⟨_, rfl, ho4, hbw4⟩

/-- what is kept: the bytes, and the mark behind them -/
theorem kept_any (g n cap B base : Nat) (A : Option Addr) (l : List UInt8) (w : World) (hl : l.length = n) (hn : n ≤ 140737488355328) (ho : Own w base (some ⟨g, 0, none⟩) (n + 1) (n + 20) (l ++ [90])) (hb : Bytes w B A l) :
    Calls Try.prog 13 #[.slice (some ⟨g, 0, none⟩) n (n + 20), .slice A n cap] w fun e w' => e = .returned (.bool true) ∧ w = w' := by
  have hb1 : Bytes w w.heap.size (some ⟨g, 0, none⟩) l := by
    have := ho.bytes.take n
    rwa [List.take_left' hl] at this
  have H := same_any (some ⟨g, 0, none⟩) A n n (n + 20) cap _ B l l w hl hl hb1 hb
  rw [beq_self_eq_true] at H
  replace H := Lib.hid H
  have hcell := ho.cell (k := n) (by simp [hl])
  rw [show (l ++ [90])[n]'(by simp [hl]) = 90 from by simp [← hl]] at hcell
  change w.cell? ⟨g, n, none⟩ = some (.int .u8 90) at hcell
  have hcut := run_cut_h (some ⟨g, 0, none⟩) n (n + 20) (n + 1) (by omega)
  rw [show ((n + 1 : Nat) : Int) = (n : Int) + 1 from by omega] at hcut
  clear hb ho hb1 hl
  go_enter Try.func13, Try.ntmps13
  go_wp2_with fail
  refine H.out.mono ?_
  rintro e w1 ⟨rfl, rfl⟩
  clear H
  go_wp2
  go_ret
  exact ⟨rfl, rfl⟩

set_option maxHeartbeats 400000 in
/-- x is those bytes, and y behind them -/
theorem behind_any (Ax Ab Ay : Option Addr) (n m cx cb cy Bx Bb By : Nat) (l t : List UInt8) (w : World) (hl : l.length = n) (ht : t.length = m) (hn : n + m ≤ cx) (hnm : n + m ≤ 281474976710656)
    (hx : Bytes w Bx Ax (l ++ t)) (hb : Bytes w Bb Ab l) (hy : Bytes w By Ay t) :
    Calls Try.prog 14 #[.slice Ax (n + m) cx, .slice Ab n cb, .slice Ay m cy] w fun e w' => e = .returned (.bool true) ∧ w = w' := by
  have hx1 : Bytes w Bx Ax l := by
    have := hx.take n
    rwa [List.take_left' hl] at this
  have hx2 : Bytes w Bx (cutAt Ax cx n) t := by
    have := hx.cut (k := n) (cap := cx) (by simp; omega) (by simp; omega)
    rwa [List.drop_left' hl] at this
  have H1 := same_any Ax Ab n n cx cb Bx Bb l l w hl hl hx1 hb
  have H2 := same_any (cutAt Ax cx n) Ay m m (cx - n) cy Bx By t t w ht ht hx2 hy
  rw [beq_self_eq_true] at H1 H2
  replace H1 := Lib.hid H1
  replace H2 := Lib.hid H2
  have hc1 := run_cut_h Ax (n + m) cx n (by omega)
  have hc2 := run_cut_l Ax (n + m) cx n (by omega)
  rw [show n + m - n = m from by omega] at hc2
  generalize cutAt Ax cx n = A' at *
  clear hx hb hy hx1 hx2 hl ht
  go_enter Try.func14, Try.ntmps14
  go_wp2_with fail
  refine H1.out.mono ?_
  rintro e w1 ⟨rfl, rfl⟩
  go_wp2_with fail
  refine H2.out.mono ?_
  rintro e w1 ⟨rfl, rfl⟩
  clear H1 H2
  go_wp2
  go_ret
  exact ⟨rfl, rfl⟩
end Go.Proofs.Ytpcmedaaggeliaa
