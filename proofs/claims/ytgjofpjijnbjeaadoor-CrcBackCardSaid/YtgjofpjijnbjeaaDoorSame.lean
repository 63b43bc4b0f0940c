/- dragnetref01.Same, Four, Frame and Wrap: the document's frame. -/
import Derived.Test.YtgjofpjijnbjeaaDoorWrap
import Derived.Test.YtgjofpjijnbjeaaDoorRefSum
import Derived.Laws.IdiomStrings
import Derived.Lib.BufferRead
namespace Go.Proofs.YtgjofpjijnbjeaaDoor
open Go.RowKit

theorem run_string_of {w : World} {B : Nat} {A : Option Addr} {l : List UInt8} (hb : Bytes w B A l) (c : Nat) :
    (convert 22 9 (.slice A l.length c)).run Tryd.prog w = .ok (.string ⟨l.toArray⟩) w := by
  rcases A with _ | ad
  · have hl : l = [] := by
      rcases Classical.em (l = []) with h | h
      · exact h
      · obtain ⟨_, h, _⟩ := hb h; cases h
    subst hl
    exact Lib.run_convert_nil_bytes w 22 9 5 c Tryd.underlying22 Tryd.underlying5 Tryd.underlying9
  · refine run_convert_bytes_back w 22 9 5 ad c l Tryd.underlying22 Tryd.underlying5 Tryd.underlying9 fun j hj => ?_
    obtain ⟨ad', h, _, hc⟩ := hb (fun e => by subst e; simp at hj)
    cases h
    exact hc j hj

theorem same_any (A1 A2 : Option Addr) (n1 n2 c1 c2 B1 B2 : Nat) (l1 l2 : List UInt8) (w : World) (hl1 : l1.length = n1) (hl2 : l2.length = n2) (hb1 : Bytes w B1 A1 l1) (hb2 : Bytes w B2 A2 l2) :
    Calls Tryd.prog 17 #[.slice A1 n1 c1, .slice A2 n2 c2] w fun e w' => e = .returned (.bool (l1 == l2)) ∧ w = w' := by
  have h1 := run_string_of hb1 c1
  have h2 := run_string_of hb2 c2
  rw [hl1] at h1
  rw [hl2] at h2
  clear hl1 hl2 hb1 hb2
  go_enter Tryd.func17, Tryd.ntmps17
  go_wp2
  go_ret
  exact ⟨rfl, rfl⟩

theorem four_any (x : Nat) (w : World) (hx : x < 4294967296) : Calls Tryd.prog 30 #[.int .u32 (x : Int)] w (MadeAt w.heap.size w 4 (four x)) := by
  have hlit : Own (w.alloc (.cells #[.int .u8 ((x : Int) % 256), .int .u8 ((x : Int) / 256 % 256), .int .u8 ((x : Int) / 65536 % 256), .int .u8 ((x : Int) / 16777216)] 5)) w.heap.size (some ⟨w.heap.size, 0, none⟩) 4 4 (four x) := by
    have h := own_lit w w.heap.size (four x) (Nat.le_refl _) (by rw [four_length]; simp only [maxLen]; omega)
    rw [bvals_four x hx] at h
    exact h
  have Hlit := Lib.hid hlit; clear hlit
  go_enter Tryd.func30, Tryd.ntmps30
  go_wp2
  go_ret
  exact ⟨_, _, rfl, Hlit.out, (Below.refl _ _).alloc (Nat.le_refl _) _⟩

set_option maxHeartbeats 400000 in
theorem frame_any (A : Option Addr) (n cap B : Nat) (l : List UInt8) (w : World) (hl : l.length = n) (hn : n ≤ 16777216) (hb : Bytes w B A l) (hB : B ≤ w.heap.size) :
    Calls Tryd.prog 26 #[.slice A n cap] w (MadeAt w.heap.size w (n + 8) (frame l)) := by
  have Hl := Lib.hid hl; clear hl
  go_enter Tryd.func26, Tryd.ntmps26
  go_wp2_with fail
  refine (four_any n w (by omega)).mono ?_
  rintro e w1 ⟨A1, c1, rfl, ho1, hb1⟩
  have hs1 := (hb.wide hB).below hb1
  go_wp2_with (at_builtin; refine wpList_append_bytes rfl (.tmp 7) (.tmp 8) rfl w.heap.size A1 4 c1 _ rfl ho1 _ A n cap l rfl Hl.out hs1 (by omega) hb1.size ?_; intro A2 c2 w2 ho2 hg2 hat2)
  have hbw2 : Below w.heap.size w w2 := hb1.grown hg2 hb1.size fun k hk => (ho1.lt hk).1
  refine (refSum_any A2 (4 + n) c2 w2.heap.size (four n ++ l) w2 ho2.len (by omega) ho2.bytes).mono ?_
  rintro e w3 ⟨rfl, rfl⟩
  have hslt := Plain.sum_lt (four n ++ l)
  have hfr : four n ++ l ++ four (Plain.sum (four n ++ l)) = frame l := by unfold frame; rw [Hl.out]
  have Hfr := Lib.hid hfr; clear hfr
  generalize Plain.sum (four n ++ l) = S at hslt Hfr
  clear hg2 hat2 hs1
  go_wp2_with fail
  refine (four_any S w2 hslt).mono ?_
  rintro e w4 ⟨A3, c3, rfl, ho3, hb3⟩
  have ho2' := ho2.below hb3
  have hbw4 : Below w.heap.size w w4 := hbw2.trans (hb3.mono hbw2.size)
  have hbase : w.heap.size ≤ w4.heap.size := hbw4.size
  go_wp2_with (at_builtin; refine wpList_append_bytes rfl (.tmp 10) (.tmp 13) rfl w.heap.size A2 (4 + n) c2 _ rfl ho2' _ A3 4 c3 (four S) rfl rfl ho3.bytes (by omega) hbase ?_; intro A5 c5 w5 ho5 hg5 hat5)
  go_ret
  rw [Hfr.out, show 4 + n + 4 = n + 8 from by omega] at ho5
  exact ⟨A5, c5, congrArg (fun m => Ending.returned (.slice A5 m c5)) (by omega), ho5, hbw4.grown hg5 hbase fun k hk => (ho2'.lt hk).1⟩

set_option maxHeartbeats 400000 in
theorem refWrap_ok (A : Option Addr) (n cap B : Nat) (l : List UInt8) (w : World) (hl : l.length = n) (hn : n ≤ 16777216) (hb : Bytes w B A l) (hB : B ≤ w.heap.size) :
    Calls Tryd.prog 16 #[.slice A n cap] w fun e w' => ∃ A' c', e = .returned (.tuple #[.slice A' (n + 8) c', .int .i64 0]) ∧ Own w' w.heap.size A' (n + 8) c' (frame l) ∧ Below w.heap.size w w' := by
  have H := Lib.hid (frame_any A n cap B l w hl hn hb hB)
  clear hl hb
  go_enter Tryd.func16, Tryd.ntmps16
  go_wp2_with fail
  refine H.out.mono ?_
  rintro e w1 ⟨A1, c1, rfl, ho1, hb1⟩
  clear H
  go_wp2
  go_ret2
  exact ⟨A1, c1, rfl, ho1, hb1⟩
theorem refWrap_long (A : Option Addr) (n cap : Nat) (w : World) (hn : 16777216 < n) (hm : n ≤ 140737488355328) :
    Calls Tryd.prog 16 #[.slice A n cap] w fun e w' => e = .returned (.tuple #[.slice none 0 0, .int .i64 5]) ∧ w = w' := by
  go_enter Tryd.func16, Tryd.ntmps16
  go_wp2
  go_ret2
  exact ⟨rfl, rfl⟩
end Go.Proofs.YtgjofpjijnbjeaaDoor
