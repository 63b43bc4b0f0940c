/- crc.Wrap: the frame of a payload, in new memory. -/
import Derived.Test.YtgjofpjijnbjeaaDoorWord
import Derived.Test.YtgjofpjijnbjeaaDoorMore
namespace Go.Proofs.YtgjofpjijnbjeaaDoor
open Go.RowKit

/-- the bytes of a payload's frame -/
def frame (l : List UInt8) : List UInt8 := (four l.length ++ l) ++ four (Plain.sum (four l.length ++ l))
theorem frame_length (l : List UInt8) : (frame l).length = l.length + 8 := by simp [frame, four_length]; omega

theorem Table.size {w : World} (h : Table w) : 0 < w.heap.size := by
  rcases Nat.eq_zero_or_pos w.heap.size with h0 | h0
  · have := h 0 (by omega)
    have he : w.heap[(0 : Nat)]? = none := Array.getElem?_eq_none (by omega)
    simp [World.cell?, he] at this
  · exact h0
theorem Table.below {w w' : World} {B : Nat} (h : Table w) (hb : Below B w w') (hB : 0 < B) : Table w' := fun i hi => (hb.cell (p := ⟨0, i, none⟩) hB).trans (h i hi)

theorem run_make_bytes (c : Nat) (hc : c ≤ 281474976710656) (u : World) :
    (Instr.makeSlice 22 (.int .i64 0) (.int .i64 (c : Int))).run Tryd.prog u = .ok (.slice (some ⟨u.heap.size, 0, none⟩) 0 c) (u.alloc (.cells (madeCells #[.int .u8 0] c) 5)) := by
  obtain ⟨i0, hi, hz0, hz1, hz2⟩ := info_parts byte_info
  have h := run_make (P := Tryd.prog) u 22 5 i0 (.int .u8 0) Tryd.underlying22 hi hz0 .i64 .i64 0 (c : Int) (by omega) (by omega) (by rw [hz2]; omega) (by omega)
  simpa [hz1, Value.cells] using h

set_option maxHeartbeats 400000 in
theorem wrap_ok (A : Option Addr) (n cap B : Nat) (l : List UInt8) (w : World) (hl : l.length = n) (hn : n ≤ 16777216) (hb : Bytes w B A l) (hB : B ≤ w.heap.size) (ht : Table w) :
    Calls Tryd.prog 15 #[.slice A n cap] w fun e w' => ∃ A' c', e = .returned (.tuple #[.slice A' (n + 8) c', .int .i64 0]) ∧ Own w' w.heap.size A' (n + 8) c' (frame l) ∧ Below w.heap.size w w' := by
  have hmk := run_make_bytes (n + 8) (by omega)
  rw [show ((n + 8 : Nat) : Int) = (n : Int) + 8 from by omega] at hmk
  have hsz := ht.size
  have Hl := Lib.hid hl; clear hl
  have hm0 : Own (w.alloc (.cells (madeCells #[.int .u8 0] (n + 8)) 5)) w.heap.size (some ⟨w.heap.size, 0, none⟩) 0 (n + 8) [] :=
    own_made w w.heap.size _ (n + 8) (Nat.le_refl _) (by simp only [maxLen]; omega) (size_madeCells _ _)
  have hbel0 : Below w.heap.size w (w.alloc (.cells (madeCells #[.int .u8 0] (n + 8)) 5)) := (Below.refl _ _).alloc (Nat.le_refl _) _
  generalize hW0 : w.alloc (.cells (madeCells #[.int .u8 0] (n + 8)) 5) = W0 at hm0 hbel0
  have HW0 := Lib.hid hW0; clear hW0
  go_enter Tryd.func15, Tryd.ntmps15
  go_wp2_with fail
  rw [HW0.out]
  refine (appendWord_any _ 0 (n + 8) w.heap.size [] n _ (by omega) hm0 (by omega) hbel0.size).mono ?_
  rintro e w1 ⟨A1, c1, rfl, ho1, hb1⟩
  clear hm0 hmk
  have hbw1 := hbel0.trans hb1
  simp only [List.nil_append, Nat.zero_add] at ho1
  have hs1 := (hb.wide hB).below hbw1
  go_wp2_with (at_builtin; refine wpList_append_bytes rfl (.tmp 17) (.tmp 18) rfl w.heap.size A1 4 c1 _ rfl ho1 _ A n cap l rfl Hl.out hs1 (by omega) hbw1.size ?_; intro A2 c2 w2 ho2 hg2 hat2)
  have hbw2 : Below w.heap.size w w2 := hbw1.grown hg2 hbw1.size fun k hk => (ho1.lt hk).1
  refine (sum_any A2 (4 + n) c2 w2.heap.size (four n ++ l) w2 ho2.len (by omega) ho2.bytes (ht.below hbw2 hsz)).mono ?_
  rintro e w3 ⟨rfl, rfl⟩
  have hslt := Plain.sum_lt (four n ++ l)
  have hfr : four n ++ l ++ four (Plain.sum (four n ++ l)) = frame l := by unfold frame; rw [Hl.out]
  have Hfr := Lib.hid hfr; clear hfr
  generalize Plain.sum (four n ++ l) = S at hslt Hfr
  clear hg2 hat2 hs1 hb1 hbel0
  go_wp2_with fail
  refine (appendWord_any A2 (4 + n) c2 w.heap.size (four n ++ l) S w2 hslt ho2 (by omega) hbw2.size).mono ?_
  rintro e w4 ⟨A3, c3, rfl, ho3, hb3⟩
  go_wp2
  go_ret2
  rw [Hfr.out, show 4 + n + 4 = n + 8 from by omega] at ho3
  exact ⟨A3, c3, congrArg (fun m => Ending.returned (.tuple #[.slice A3 m c3, .int .i64 0])) (by omega), ho3, hbw2.trans hb3⟩

set_option maxHeartbeats 400000 in
theorem wrap_long (A : Option Addr) (n cap : Nat) (w : World) (hn : 16777216 < n) (hm : n ≤ 140737488355328) :
    Calls Tryd.prog 15 #[.slice A n cap] w fun e w' => e = .returned (.tuple #[.slice none 0 0, .int .i64 5]) ∧ w = w' := by
  go_enter Tryd.func15, Tryd.ntmps15
  go_wp2
  go_ret2
  exact ⟨rfl, rfl⟩
end Go.Proofs.YtgjofpjijnbjeaaDoor
