/- num.PutRow. -/
import Derived.Test.YtmcioglidgbibaaPut
namespace Go.Proofs.Ytmcioglidgbibaa
open Go.RowKit
set_option maxRecDepth 100000

/-- a row's encoding -/
def Num.row (l : List UInt8) : List UInt8 := Num.num l.length ++ l
theorem Num.row_length (l : List UInt8) : (Num.row l).length = Num.size l.length + l.length := by rw [Num.row, List.length_append, Num.num_length]

set_option maxHeartbeats 400000 in
theorem putRow_any (A1 A2 : Option Addr) (n1 n2 c1 c2 B1 B2 : Nat) (l1 l2 : List UInt8) (w : World) (hl1 : l1.length = n1) (hl2 : l2.length = n2) (hn1 : n1 ≤ 140737488351265) (hn2 : n2 ≤ 140737488351265)
    (hb1 : Bytes w B1 A1 l1) (hb2 : Bytes w B2 A2 l2) (hB1 : B1 ≤ w.heap.size) (hB2 : B2 ≤ w.heap.size) :
    Calls Try.prog 40 #[.slice A1 n1 c1, .slice A2 n2 c2] w (MadeIn w.heap.size w (n1 + (Num.size n2 + n2)) (l1 ++ Num.row l2)) := by
  have hv : n2 < 18446744073709551616 := by omega
  have h9 := Num.size_le9 hv
  have H1 := encodedSize_any n2 w hv
  have H2 := copyWithRoom_any A1 n1 c1 B1 (Num.size n2 + n2) l1 w hl1 (by omega) hb1 hB1
  have H3 := Lib.hid fun g c w' => appendNumber_any g n1 c w.heap.size n2 l1 w' hv
  have hr : Num.row l2 = Num.num n2 ++ l2 := by rw [Num.row, hl2]
  rw [hr]
  clear hr
  generalize Num.size n2 = s at *
  generalize Num.num n2 = N at *
  rw [show ((s + n2 : Nat) : Int) = (s : Int) + (n2 : Int) from by omega] at H2
  replace H1 := Lib.hid H1
  replace H2 := Lib.hid H2
  have Hl2 := Lib.hid hl2
  clear hb1 hl1 hl2 hB1
  go_enter Try.func40, Try.ntmps40
  go_wp2_with fail
  refine H1.out.mono ?_
  rintro e w1 ⟨rfl, rfl⟩
  go_wp2_with fail
  refine H2.out.mono ?_
  rintro e w1 ⟨g, rfl, ho, hb⟩
  clear H1 H2
  have hs1 := (hb2.wide hB2).below hb
  go_wp2_with fail
  refine (H3.out g (n1 + (s + n2)) w1 ho (by omega)).mono ?_
  rintro e w2 ⟨rfl, ho2, hb2'⟩
  clear H3 ho
  have hs2 := hs1.below hb2'
  have hblk := ho2.block.1
  have hsz := ho2.size
  go_wp2_with (at_builtin; refine wpList_append_fit rfl (.tmp 19) (.tmp 20) rfl w.heap.size g (n1 + s) (n1 + (s + n2)) _ rfl ho2 _ A2 n2 c2 l2 rfl Hl2.out hs2 (by omega) ?_; intro w3 ho3 hg3)
  go_ret
  rw [List.append_assoc, Nat.add_assoc] at ho3
  exact ⟨g, _, congrArg (fun m => Ending.returned (.slice (some ⟨g, 0, none⟩) m (n1 + (s + n2)))) (by omega), ho3, (hb.trans hb2').grown hg3 hsz (fun k hk => by cases hk; exact hblk)⟩
end Go.Proofs.Ytmcioglidgbibaa
