/- dragnetref05: four, before, more, sum. -/
import Derived.Test.YtonknkmbkfndcaaLzFns
import Derived.Test.YtonknkmbkfndcaaCopy
import Derived.Test.YtonknkmbkfndcaaFits
namespace Go.Proofs.Ytonknkmbkfndcaa
open Go.RowKit

theorem quad_ne {b : List UInt8} {i k : Nat} (h : Lz.quad b i = Lz.quad b k → False) : decide (Lz.quad b i = Lz.quad b k) = false := decide_eq_false h

set_option maxHeartbeats 2000000 in
theorem four_any (A : Option Addr) (n cap B i k : Nat) (l : List UInt8) (w : World) (hl : l.length = n) (hi : i + 4 ≤ n) (hk : k + 4 ≤ n) (hm : n ≤ 281474976710656) (hb : Bytes w B A l) :
    Calls Try.prog 28 #[.slice A n cap, .int .i64 (i : Int), .int .i64 (k : Int)] w fun e w' => e = .returned (.bool (decide (Lz.quad l i = Lz.quad l k))) ∧ Drawn w w' := by
  obtain ⟨ad, rfl⟩ := hb.addr (k := i) (by omega)
  have cx0 := hb.at_ (k := i) (by omega)
  have rx0 := run_index_at ad n cap i (by omega)
  have cx1 := hb.at_ (k := i + 1) (by omega)
  have rx1 := run_index_at ad n cap (i + 1) (by omega)
  rw [show ((i + 1 : Nat) : Int) = (i : Int) + 1 from by omega] at rx1
  have cx2 := hb.at_ (k := i + 2) (by omega)
  have rx2 := run_index_at ad n cap (i + 2) (by omega)
  rw [show ((i + 2 : Nat) : Int) = (i : Int) + 2 from by omega] at rx2
  have cx3 := hb.at_ (k := i + 3) (by omega)
  have rx3 := run_index_at ad n cap (i + 3) (by omega)
  rw [show ((i + 3 : Nat) : Int) = (i : Int) + 3 from by omega] at rx3
  have cy0 := hb.at_ (k := k) (by omega)
  have ry0 := run_index_at ad n cap k (by omega)
  have cy1 := hb.at_ (k := k + 1) (by omega)
  have ry1 := run_index_at ad n cap (k + 1) (by omega)
  rw [show ((k + 1 : Nat) : Int) = (k : Int) + 1 from by omega] at ry1
  have cy2 := hb.at_ (k := k + 2) (by omega)
  have ry2 := run_index_at ad n cap (k + 2) (by omega)
  rw [show ((k + 2 : Nat) : Int) = (k : Int) + 2 from by omega] at ry2
  have cy3 := hb.at_ (k := k + 3) (by omega)
  have ry3 := run_index_at ad n cap (k + 3) (by omega)
  rw [show ((k + 3 : Nat) : Int) = (k : Int) + 3 from by omega] at ry3
  have hq : (Lz.at_ l i = Lz.at_ l k ∧ Lz.at_ l (i + 1) = Lz.at_ l (k + 1) ∧ Lz.at_ l (i + 2) = Lz.at_ l (k + 2) ∧ Lz.at_ l (i + 3) = Lz.at_ l (k + 3)) ↔ Lz.quad l i = Lz.quad l k :=
    ⟨fun ⟨h0, h1, h2, h3⟩ => by unfold Lz.quad; rw [h0, h1, h2, h3], fun h => Lz.quad_eq h⟩
  generalize Lz.at_ l i = x0 at *
  generalize ad.add i = px0 at *
  generalize Lz.at_ l (i + 1) = x1 at *
  generalize ad.add (i + 1) = px1 at *
  generalize Lz.at_ l (i + 2) = x2 at *
  generalize ad.add (i + 2) = px2 at *
  generalize Lz.at_ l (i + 3) = x3 at *
  generalize ad.add (i + 3) = px3 at *
  generalize Lz.at_ l k = y0 at *
  generalize ad.add k = py0 at *
  generalize Lz.at_ l (k + 1) = y1 at *
  generalize ad.add (k + 1) = py1 at *
  generalize Lz.at_ l (k + 2) = y2 at *
  generalize ad.add (k + 2) = py2 at *
  generalize Lz.at_ l (k + 3) = y3 at *
  generalize ad.add (k + 3) = py3 at *
  generalize Lz.quad l i = q1 at *
  generalize Lz.quad l k = q2 at *
  have HQ := Lib.hid hq
  have hi0 : (0 : Int) ≤ (i : Int) := by omega
  have hi1 : (i : Int) + 3 < (n : Int) := by omega
  have hk0 : (0 : Int) ≤ (k : Int) := by omega
  have hk1 : (k : Int) + 3 < (n : Int) := by omega
  clear hb hq hl
  by_cases e0 : x0 = y0
  · have d0 : ((x0 : Int) == (y0 : Int)) = true := by simp; omega
    have E0 := Lib.hid e0; clear e0
    by_cases e1 : x1 = y1
    · have d1 : ((x1 : Int) == (y1 : Int)) = true := by simp; omega
      have E1 := Lib.hid e1; clear e1
      by_cases e2 : x2 = y2
      · have d2 : ((x2 : Int) == (y2 : Int)) = true := by simp; omega
        have E2 := Lib.hid e2; clear e2
        by_cases e3 : x3 = y3
        · have d3 : ((x3 : Int) == (y3 : Int)) = true := by simp; omega
          have E3 := Lib.hid e3; clear e3
          go_enter Try.func28, Try.ntmps28
          go_wp2_with fail
          go_quiet (fail)
          go_wp2
          go_ret
          exact ⟨by rw [decide_eq_true (HQ.out.1 ⟨E0.out, E1.out, E2.out, E3.out⟩)]; rfl, ⟨_, rfl⟩⟩
        · have d3 : ((x3 : Int) == (y3 : Int)) = false := by simp; omega
          have NE := Lib.hid (show ¬ (x0 = y0 ∧ x1 = y1 ∧ x2 = y2 ∧ x3 = y3) from fun h => e3 h.2.2.2)
          clear e3
          go_enter Try.func28, Try.ntmps28
          go_wp2_with fail
          go_quiet (fail)
          go_wp2
          go_ret
          exact ⟨by rw [decide_eq_false (fun h => NE.out (HQ.out.2 h))]; rfl, ⟨_, rfl⟩⟩
      · have d2 : ((x2 : Int) == (y2 : Int)) = false := by simp; omega
        have NE := Lib.hid (show ¬ (x0 = y0 ∧ x1 = y1 ∧ x2 = y2 ∧ x3 = y3) from fun h => e2 h.2.2.1)
        clear e2
        go_enter Try.func28, Try.ntmps28
        go_wp2_with fail
        go_quiet (fail)
        go_wp2
        go_ret
        exact ⟨by rw [decide_eq_false (fun h => NE.out (HQ.out.2 h))]; rfl, ⟨_, rfl⟩⟩
    · have d1 : ((x1 : Int) == (y1 : Int)) = false := by simp; omega
      have NE := Lib.hid (show ¬ (x0 = y0 ∧ x1 = y1 ∧ x2 = y2 ∧ x3 = y3) from fun h => e1 h.2.1)
      clear e1
      go_enter Try.func28, Try.ntmps28
      go_wp2_with fail
      go_quiet (fail)
      go_wp2
      go_ret
      exact ⟨by rw [decide_eq_false (fun h => NE.out (HQ.out.2 h))]; rfl, ⟨_, rfl⟩⟩
  · have d0 : ((x0 : Int) == (y0 : Int)) = false := by simp; omega
    have NE := Lib.hid (show ¬ (x0 = y0 ∧ x1 = y1 ∧ x2 = y2 ∧ x3 = y3) from fun h => e0 h.1)
    clear e0
    go_enter Try.func28, Try.ntmps28
    go_wp2_with fail
    go_quiet (fail)
    go_wp2
    go_ret
    exact ⟨by rw [decide_eq_false (fun h => NE.out (HQ.out.2 h))]; rfl, ⟨_, rfl⟩⟩

theorem before_far {b : List UInt8} {i : Nat} : ∀ {k : Nat}, 65535 < i - k → Lz.before b i (k + 1) = none
  | 0, h => by rw [Lz.before, if_neg (by omega)]; rfl
  | k + 1, h => by rw [Lz.before, if_neg (by omega)]; exact before_far (by omega)
/-- what before answers -/
def lastVal : Option Nat → Int
  | none => -1
  | some k => (k : Int)

set_option maxHeartbeats 1000000 in
theorem before_any (A : Option Addr) (n cap B i : Nat) (l : List UInt8) (w : World) (hl : l.length = n) (hi : i + 4 ≤ n) (hm : n ≤ 281474976710656) (hb : Bytes w B A l) :
    Calls Try.prog 20 #[.slice A n cap, .int .i64 (i : Int)] w fun e w' => e = .returned (.int .i64 (lastVal (Lz.before l i i))) ∧ Drawn w w' := by
  have H := fun k w' hk hb' => four_any A n cap B k i l w' hl hk hi hm hb'
  obtain ⟨z, hz, hz0, hz1⟩ : ∃ z : Int, z = (i : Int) ∧ 0 ≤ z ∧ z ≤ 281474976710656 := ⟨i, rfl, by omega, by omega⟩
  rw [← hz] at H ⊢
  replace H := Lib.hid H
  obtain ⟨R, hR⟩ : ∃ R, R = Lz.before l i i := ⟨_, rfl⟩
  rw [← hR]
  have HR := Lib.hid hR.symm
  have HZ := Lib.hid hz
  have Hi := Lib.hid hi
  clear hR hz hl hi
  go_enter Try.func20, Try.ntmps20
  go_wp2
  go_loopw [5] (fun s wr => ∃ (k : Nat) (y : Int), s = .int .i64 y ∧ y = (k : Int) - 1 ∧ -1 ≤ y ∧ y ≤ 281474976710656 ∧ k ≤ i ∧ Lz.before l i k = R ∧ Bytes wr B A l ∧ Drawn w wr) (fun s _ => (intOf s + 1).toNat)
  case atStart => exact ⟨i, z - 1, rfl, by rw [HZ.out], by omega, by omega, Nat.le_refl _, HR.out, hb, Drawn.refl _⟩
  case round =>
    clear hb HR
    obtain ⟨k, y, rfl, hy, hy0, hy1, hk, hR, hb, hd⟩ := hrel
    have Hy := Lib.hid hy
    rcases k with _ | k
    · have hy2 : ¬ ((0 : Int) ≤ y) := by omega
      have HR := Lib.hid (show R = none from hR.symm)
      clear hy hR
      go_wp2
      go_ret
      exact ⟨by rw [HR.out]; rfl, hd⟩
    · have hy2 : (0 : Int) ≤ y := by omega
      have hyk : y = (k : Int) := by omega
      have Hyk := Lib.hid hyk
      by_cases h65 : i - k ≤ 65535
      · have h65' : z - y ≤ 65535 := by have := HZ.out; omega
        have hzy : (0 : Int) ≤ z - y := by have := HZ.out; omega
        rw [Lz.before] at hR
        have H1 := H.out k wr (by have := Hi.out; omega) hb
        rw [← hyk] at H1
        have HB := Lib.hid hb
        by_cases hq : Lz.quad l k = Lz.quad l i
        · rw [if_pos ⟨h65, hq⟩] at hR
          rw [decide_eq_true hq] at H1
          replace H1 := Lib.hid H1
          have HR := Lib.hid hR.symm
          clear hy hyk hR h65 hq hb hk
          go_wp2_with fail
          refine H1.out.mono ?_
          rintro e w1 ⟨rfl, hd1⟩
          clear H1
          go_wp2
          go_ret
          refine ⟨?_, hd.trans hd1⟩
          rw [HR.out]
          exact congrArg (fun x => Ending.returned (.int .i64 x)) Hyk.out
        · rw [if_neg (fun h => hq h.2)] at hR
          rw [decide_eq_false hq] at H1
          replace H1 := Lib.hid H1
          have HR := Lib.hid hR
          have Hk := Lib.hid hk
          clear hy hyk hR h65 hq hb hk
          go_wp2_with fail
          refine H1.out.mono ?_
          rintro e w1 ⟨rfl, hd1⟩
          clear H1
          go_wp2
          go_roundw
          case rel => exact ⟨k, y - 1, by go_num, by rw [Hyk.out], by omega, by omega, by have := Hk.out; omega, HR.out, bytes_drawn HB.out hd1, hd.trans hd1⟩
          case measure => simp [intOf]; omega
      · have h65' : ¬ (z - y ≤ 65535) := by have := HZ.out; omega
        rw [before_far (by omega)] at hR
        have HR := Lib.hid hR.symm
        have hzy : z - y ≤ 281474976710656 := by have := HZ.out; omega
        clear hy hyk hR h65 hk
        go_wp2
        go_ret
        exact ⟨by rw [HR.out]; rfl, hd⟩

theorem own_none2 (w : World) (base : Nat) : Own w base none 0 0 [] := World.ownsRow_nil w base _ _

set_option maxHeartbeats 1000000 in
theorem more_any (k : Nat) (w : World) (hk : k ≤ 1000000000000000) :
    Calls Try.prog 29 #[.int .i64 (k : Int)] w (MadeAt w.heap.size w (Lz.ext k).length (Lz.ext k)) := by
  have hlen := Lz.ext_length k
  generalize hX : Lz.ext k = X
  rw [hX] at hlen
  have HX := Lib.hid hX
  generalize hN : X.length = N at *
  have HN := Lib.hid hN
  have hNb : N ≤ 140737488355328 := by omega
  clear hX hN hlen
  go_enter Try.func29, Try.ntmps29
  go_wp2
  go_loopw [0, 3] (fun r s wr => ∃ (j m : Nat) (A' : Option Addr) (c' : Nat) (M : List UInt8), j ≤ k ∧ r = .int .i64 j ∧ s = .slice A' m c' ∧ Own wr w.heap.size A' m c' M ∧ M ++ Lz.ext j = X ∧ m + (Lz.ext j).length = N ∧ w.heap.size ≤ wr.heap.size ∧ Below w.heap.size w wr) (fun r _ _ => (intOf r).toNat)
  case atStart => exact ⟨k, 0, none, 0, [], Nat.le_refl _, rfl, rfl, own_none2 _ _, HX.out, by rw [HX.out, HN.out]; omega, Nat.le_refl _, Below.refl _ _⟩
  case round =>
    clear HX HN
    obtain ⟨j, m, A', c', M, hj, rfl, rfl, ho, hX, hN, hsz, hbel⟩ := hrel
    have HX := Lib.hid hX; clear hX
    have HN := Lib.hid hN; clear hN
    have hlen := Lz.ext_length j
    by_cases h255 : j < 255
    · have hx := HX.out
      have hy := HN.out
      rw [Lz.ext_small h255] at hx hy
      have hone := own_one wr (UInt8.ofNat j) (j : Int) (by rw [bval_small (by omega)])
      have hb1 := hone.bytes
      have ho1 := ho.alloc (.cells #[.int .u8 (j : Int)] 5)
      have hbel2 : Below w.heap.size w (wr.alloc (.cells #[.int .u8 (j : Int)] 5)) := hbel.alloc hsz _
      have hsz2 : w.heap.size ≤ (wr.alloc (.cells #[.int .u8 (j : Int)] 5)).heap.size := by simp; omega
      have h255' : ¬ ((255 : Int) ≤ (j : Int)) := by omega
      have Hx := Lib.hid hx
      have Hy := Lib.hid hy
      have hm : m + 1 ≤ 140737488355328 := by simp at hy; omega
      clear hone ho hx hy HX HN hlen
      go_wp2_with (at_builtin; refine wpList_append_bytes rfl (.tmp 11) (.tmp 14) rfl w.heap.size A' m c' M rfl ho1 _ _ 1 1 [UInt8.ofNat j] rfl rfl hb1 (by omega) hsz2 ?_; intro A2 c2 w2 ho3 hg3 hat3)
      go_ret
      rw [Hx.out] at ho3
      have hy := Hy.out
      rw [List.length_singleton] at hy
      rw [hy] at ho3
      exact ⟨A2, c2, by rw [← hy]; go_num, ho3, hbel2.grown hg3 hsz2 (fun k hk => (ho1.lt hk).1)⟩
    · have hx := HX.out
      have hy := HN.out
      rw [Lz.ext_great h255] at hx hy
      have hone := own_one wr 255 255 rfl
      have hb1 := hone.bytes
      have ho1 := ho.alloc (.cells #[.int .u8 255] 5)
      have hbel2 : Below w.heap.size w (wr.alloc (.cells #[.int .u8 255] 5)) := hbel.alloc hsz _
      have hsz2 : w.heap.size ≤ (wr.alloc (.cells #[.int .u8 255] 5)).heap.size := by simp; omega
      have h255' : (255 : Int) ≤ (j : Int) := by omega
      have hm : m + 1 ≤ 140737488355328 := by simp at hy; omega
      have Hx := Lib.hid hx
      have Hy := Lib.hid hy
      clear hone ho hx hy HX HN hlen
      go_wp2_with (at_builtin; refine wpList_append_bytes rfl (.tmp 6) (.tmp 7) rfl w.heap.size A' m c' M rfl ho1 _ _ 1 1 [255] rfl rfl hb1 (by omega) hsz2 ?_; intro A2 c2 w2 ho3 hg3 hat3)
      go_roundw
      case rel =>
        refine ⟨j - 255, m + 1, A2, c2, M ++ [255], by omega, ?_, by go_num, ho3, ?_, ?_, Nat.le_trans hsz2 hg3.size, hbel2.grown hg3 hsz2 (fun k hk => (ho1.lt hk).1)⟩
        · exact congrArg (Value.int .i64) (by omega)
        · rw [List.append_assoc, List.singleton_append]; exact Hx.out
        · have := Hy.out; rw [List.length_cons] at this; omega
      case measure => simp [intOf]; omega
end Go.Proofs.Ytonknkmbkfndcaa
