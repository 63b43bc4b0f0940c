/- slices.Grow of nil, slices.Concat of two byte slices. -/
import Derived.Test.YtmcioglidgbibaaPut
import Derived.Test.YtmcioglidgbibaaFits
import Derived.Test.YtmcioglidgbibaaCuts
import Derived.Lib.AppendZerosOnto
import Derived.LoopN
namespace Go.Proofs.Ytmcioglidgbibaa
open Go.RowKit
set_option maxRecDepth 100000

theorem own_room (w : World) (c n : Nat) (hn : n ≤ c) (hm : c ≤ maxLen) :
    Own (w.drew.alloc (.cells (([] : List Value).toArray ++ Builtin.zeroCells (Value.int .u8 0).cells n ++ Builtin.zeroCells (Value.int .u8 0).cells (c - n)) 5)) w.heap.size (some ⟨w.heap.size, 0, none⟩) 0 c [] := by
  refine own_made w.drew w.heap.size _ c (Nat.le_refl _) hm ?_
  simp [Builtin.zeroCells, Value.cells]
  omega

theorem wpList_append_zeros {w w1 : World} {G n : Nat} {A1 : Option Addr} {ops : Array Oper} {rest : List Oper} {o : Oper} {a : Act} {Q : Exit → Act → World → Prop} (hw : Region.wanted o (yielded ops a.tmps) = true) (s x : Operand)
    (ho : o.op = .call { callee := .builtin .append, args := #[s, x], argTypes := #[24, 3] }) (hs : a.eval s = .slice none 0 0) (hx : a.eval x = .int .i64 (n : Int))
    (hrun : ∀ ty, (Builtin.append_ #[24, 3] ty #[.slice none 0 0, .int .i64 (n : Int)]).run Try.prog w = .ok (.slice A1 n G) w1)
    (h : wpList Try.prog ops Q rest (a.put o.dst (.slice A1 n G)) w1) : wpList Try.prog ops Q (o :: rest) a w := by
  refine wpList_step fun K hK => ?_
  rw [if_pos hw]
  unfold Oper.wp execOp
  simp only [ho, resolve, invoke, builtin, Sem.run_bind, Sem.run_pure, Result.andThen_ok, List.map_toArray, List.map_cons, List.map_nil, hs, hx, hrun]
  exact hK _ _ h

theorem grow_any (n : Nat) (w : World) (h1 : 1 ≤ n) (hn : n ≤ 140737488355328) :
    Calls Try.prog 56 #[.slice none 0 0, .int .i64 (n : Int)] w fun e w' => ∃ c, n ≤ c ∧ e = .returned (.slice (some ⟨w.heap.size, 0, none⟩) 0 c) ∧
      Own w' w.heap.size (some ⟨w.heap.size, 0, none⟩) 0 c [] ∧ Below w.heap.size w w' := by
  obtain ⟨i0, hi0, hz0, hz1, hz2⟩ := info_parts byte_info
  have hrz : ∀ ty, (Builtin.append_ #[24, 3] ty #[.slice none 0 0, .int .i64 (n : Int)]).run Try.prog w =
      .ok (.slice (some ⟨w.heap.size, 0, none⟩) n (grownCap w n 0 5)) (w.drew.alloc (.cells (([] : List Value).toArray ++ Builtin.zeroCells (Value.int .u8 0).cells n ++ Builtin.zeroCells (Value.int .u8 0).cells (grownCap w n 0 5 - n)) 5)) := fun ty => by
    have h := Lib.run_append_grow_zeros (P := Try.prog) w 24 3 ty 5 i0 (.int .u8 0) .i64 .i64 Try.underlying24 Try.underlying3 hi0 hz0 none 0 0 [] (run_firstCells_none w.drew i0.size 0 0 0) n (by omega) (by omega) (by omega) (by omega)
      (by rw [hz2]; omega) (by rw [hz2]; exact growslice_fits (by omega) (by omega))
    rw [Nat.zero_add] at h
    exact h
  have hge : n ≤ grownCap w n 0 5 := grownCap_ge w _ _ _
  have hle := grownCap_le_maxLen w n 0 5 (by unfold maxLen; omega)
  have hown := own_room w _ n hge hle
  have hbel : Below w.heap.size w (w.drew.alloc (.cells (([] : List Value).toArray ++ Builtin.zeroCells (Value.int .u8 0).cells n ++ Builtin.zeroCells (Value.int .u8 0).cells (grownCap w n 0 5 - n)) 5)) := (Below.refl _ w).drew.alloc (Nat.le_refl _) _
  generalize w.drew.alloc (.cells (([] : List Value).toArray ++ Builtin.zeroCells (Value.int .u8 0).cells n ++ Builtin.zeroCells (Value.int .u8 0).cells (grownCap w n 0 5 - n)) 5) = w1 at *
  generalize grownCap w n 0 5 = G at *
  have hG63 : G ≤ 9223372036854775807 := by unfold maxLen at hle; omega
  have Hown := Lib.hid hown
  have Hbel := Lib.hid hbel
  clear hown hbel hle hi0 hz0 hz1 hz2
  go_enter Try.func56, Try.ntmps56
  have Hrz := Lib.hid hrz; clear hrz
  go_wp2_with (at_builtin; refine wpList_append_zeros rfl (.tmp 20) (.tmp 21) rfl rfl rfl Hrz.out ?_)
  go_ret
  exact ⟨G, hge, rfl, Hown.out, Hbel.out⟩

set_option maxHeartbeats 2000000 in
theorem concat2_any (g n1 c1 n2 c2 B : Nat) (A1 A2 : Option Addr) (l1 l2 : List UInt8) (w : World) (hl1 : l1.length = n1) (hl2 : l2.length = n2) (h1 : 1 ≤ n2) (hn : n1 + n2 ≤ 140737488355328)
    (hb1 : Bytes w B A1 l1) (hb2 : Bytes w B A2 l2) (hB : B ≤ w.heap.size) (hg : g < w.heap.size) (hc1 : w.cell? ⟨g, 0, none⟩ = some (.slice A1 n1 c1)) (hc2 : w.cell? ⟨g, 1, none⟩ = some (.slice A2 n2 c2)) :
    Calls Try.prog 41 #[.slice (some ⟨g, 0, none⟩) 2 2] w (MadeIn w.heap.size w (n1 + n2) (l1 ++ l2)) := by
  have hb1 := hb1.wide hB
  have hb2 := hb2.wide hB
  have H1 := grow_any (n1 + n2) w (by omega) hn
  rw [show ((n1 + n2 : Nat) : Int) = (n1 : Int) + (n2 : Int) from by omega] at H1
  replace H1 := Lib.hid H1
  have Hl1 := Lib.hid hl1
  have Hl2 := Lib.hid hl2
  clear hl1 hl2
  go_enter Try.func41, Try.ntmps41
  go_wp2_with fail
  refine wp_loop_rounds 3 ?_
  rw [rounds_succ]; go_wp2
  rw [rounds_succ]; go_wp2
  rw [rounds_succ]; go_wp2_with fail
  refine H1.out.mono ?_
  rintro e w1 ⟨c, hc, rfl, ho, hbel⟩
  clear H1
  have hc1' := (hbel.cell (p := ⟨g, 0, none⟩) hg).trans hc1
  have hc2' := (hbel.cell (p := ⟨g, 1, none⟩) hg).trans hc2
  have hb1' := hb1.below hbel
  clear hc1 hb1
  go_wp2_with fail
  refine wp_loop_rounds 3 ?_
  rw [rounds_succ]
  go_wp2_with (at_builtin; refine wpList_append_fit rfl (.tmp 31) (.tmp 32) rfl w.heap.size w.heap.size 0 c [] rfl ho _ A1 n1 c1 l1 rfl Hl1.out hb1' (by omega) ?_; intro w2 ho2 hg2)
  have hbel2 : Below w.heap.size w w2 := hbel.grown hg2 hbel.size (fun k hk => by cases hk; exact Nat.le_refl _)
  have hc2'' := (hbel2.cell (p := ⟨g, 1, none⟩) hg).trans hc2
  have hb2' := hb2.below hbel2
  rw [Nat.zero_add, List.nil_append] at ho2
  clear hc1' hc2' hc2 hb1' hb2 ho hg2 hbel
  rw [rounds_succ]
  go_wp2_with (at_builtin; refine wpList_append_fit rfl (.tmp 31) (.tmp 32) rfl w.heap.size w.heap.size n1 c l1 rfl ho2 _ A2 n2 c2 l2 rfl Hl2.out hb2' (by omega) ?_; intro w3 ho3 hg3)
  have hbel3 : Below w.heap.size w w3 := hbel2.grown hg3 hbel2.size (fun k hk => by cases hk; exact Nat.le_refl _)
  rw [rounds_succ]
  go_wp2
  go_ret
  exact ⟨w.heap.size, c, by simp, ho3, hbel3⟩
end Go.Proofs.Ytmcioglidgbibaa
