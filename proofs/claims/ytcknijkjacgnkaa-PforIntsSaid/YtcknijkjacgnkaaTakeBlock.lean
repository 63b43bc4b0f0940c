/- pfor.TakeBlock. -/
import Derived.Test.YtcknijkjacgnkaaReadBlock
namespace Go.Proofs.Ytcknijkjacgnkaa
open Go.RowKit

/-- what TakeBlock answers: numbers of one's own, a size, an error -/
def TakesPost (w : World) (r : List UInt64 × Nat × Nat) (e : Ending) (w' : World) : Prop :=
  ∃ A c, e = .returned (.tuple #[.slice A r.1.length c, .int .i64 (r.2.1 : Int), .int .i64 (r.2.2 : Int)]) ∧ NOwn w' w.heap.size A r.1.length c r.1 ∧ Below w.heap.size w w'

set_option maxHeartbeats 1000000 in
theorem takeBlock_any (A : Option Addr) (n cap B : Nat) (b : List UInt8) (w : World) (hl : b.length = n) (hcap : n ≤ cap) (hm : n ≤ 281474976710656) (hb : Bytes w B A b) (hB : B ≤ w.heap.size) :
    Calls Try.prog 16 #[.slice A n cap] w (TakesPost w (Pfor.takeBlock b)) := by
  have H0 := Lib.hid (readBlock_any A n cap B b w hl hcap hm hb hB)
  have hb := hb.wide hB
  have HE := Lib.hid (fun (A1 : Option Addr) (c1 : Nat) (L : List UInt64) (w1 : World) (h1 : 1 ≤ L.length) (h2 : L.length ≤ 32) (ho : NOwn w1 w.heap.size A1 L.length c1 L) => encodeBlock_any A1 L.length c1 _ L w1 rfl h1 h2 ho.row (Nat.le_refl _))
  have HP := Lib.hid (fun (A2 : Option Addr) (c2 : Nat) (K : List UInt8) (w1 : World) (hk : Bytes w1 w1.heap.size A2 K) (hb : Bytes w1 w.heap.size A b) => hasPrefix_any A A2 n K.length cap c2 _ _ b K w1 hl rfl hcap hb hk)
  clear hl
  go_enter Try.func16, Try.ntmps16
  go_wp2_with fail
  refine H0.out.mono ?_
  clear H0
  rintro e w1 (⟨L, A1, c1, hR, rfl, h1, h2, ho1, hb1⟩ | ⟨hR, rfl, hb1⟩)
  · have C1 := Lib.hid (HE.out A1 c1 L w1 h1 h2 ho1)
    have HR := Lib.hid hR
    have hbb := hb.below hb1
    clear HE hR hb
    go_wp2_with fail
    refine C1.out.mono ?_
    rintro e w2 ⟨g2, c2, rfl, ho2, hb2⟩
    clear C1
    have hbb2 := hbb.below (hb2.mono hb1.size)
    have C2 := Lib.hid (HP.out _ c2 _ w2 ho2.bytes hbb2)
    have hbel := hb1.trans (hb2.mono hb1.size)
    have ho12 := ho1.below hb2
    clear HP ho1 ho2 hbb hbb2
    go_wp2_with fail
    refine C2.out.mono ?_
    clear C2
    rintro e w3 ⟨q, rfl, hq, rfl⟩
    cases q with
    | true =>
      have ht := Pfor.takeBlock_of ⟨h1, h2⟩ (hq.1 rfl)
      have Ht := Lib.hid ht
      clear ht hq
      go_wp2
      go_ret3
      rw [Ht.out]
      exact ⟨A1, c1, rfl, ho12, hbel⟩
    | false =>
      have ht := Pfor.takeBlock_read_not HR.out (fun h => by have := hq.2 h; cases this)
      have Ht := Lib.hid ht
      clear ht hq
      go_wp2
      go_ret3
      rw [Ht.out]
      exact ⟨none, 0, rfl, nown_none _ _, hbel⟩
  · have Ht := Lib.hid (Pfor.takeBlock_read_none hR)
    clear hR
    go_wp2
    go_ret3
    rw [Ht.out]
    exact ⟨none, 0, rfl, nown_none _ _, hb1⟩
end Go.Proofs.Ytcknijkjacgnkaa
