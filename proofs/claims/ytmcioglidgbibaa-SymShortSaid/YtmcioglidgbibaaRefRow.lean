/- The document's Row. -/
import Derived.Test.YtmcioglidgbibaaRefNum
import Derived.Test.YtmcioglidgbibaaPutRow
namespace Go.Proofs.Ytmcioglidgbibaa
open Go.RowKit
set_option maxRecDepth 100000

theorem refRow_any (A : Option Addr) (n cap B : Nat) (l : List UInt8) (w : World) (hl : l.length = n) (hn : n ≤ 140737488355300) (hb : Bytes w B A l) (hB : B ≤ w.heap.size) :
    Calls Try.prog 43 #[.slice A n cap] w (MadeIn w.heap.size w (Num.size n + n) (Num.row l)) := by
  have hv : n < 18446744073709551616 := by omega
  have h9 := Num.size_le9 hv
  have h1 := Num.size_pos n
  have H1 := Lib.hid (refBytes_any n w hv)
  have hr : Num.row l = Num.num n ++ l := by rw [Num.row, hl]
  rw [hr]
  clear hr
  generalize Num.size n = s at *
  generalize Num.num n = N at *
  have Hl := Lib.hid hl; clear hl
  go_enter Try.func43, Try.ntmps43
  go_wp2_with fail
  refine H1.out.mono ?_
  rintro e w1 ⟨g, c, rfl, ho, hb1⟩
  clear H1
  have hs1 := (hb.wide hB).below hb1
  have hsz := ho.size
  have hblk := ho.block.1
  go_wp2_with (at_builtin; refine wpList_append_bytes rfl (.tmp 6) (.tmp 7) rfl w.heap.size _ s c _ rfl ho _ A n cap l rfl Hl.out hs1 (by omega) hsz ?_; intro A2 c2 w2 ho2 hg2 hat2)
  go_ret
  obtain ⟨g2, rfl, _⟩ := ho2.at_ (by omega)
  exact ⟨g2, c2, by simp, ho2, hb1.grown hg2 hsz (fun k hk => (ho.lt hk).1)⟩
end Go.Proofs.Ytmcioglidgbibaa
