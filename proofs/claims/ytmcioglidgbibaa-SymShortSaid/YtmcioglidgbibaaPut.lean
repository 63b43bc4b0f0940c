/- num.copyWithRoom, num.appendNumber, num.Put, num.PutInt, num.PutRow. -/
import Derived.Test.YtmcioglidgbibaaFits
import Derived.Test.YtmcioglidgbibaaEncSize
namespace Go.Proofs.Ytmcioglidgbibaa
open Go.RowKit
set_option maxRecDepth 100000

theorem copyWithRoom_any (A : Option Addr) (n cap B m : Nat) (l : List UInt8) (w : World) (hl : l.length = n) (hn : n + m ≤ 281474976710656) (hb : Bytes w B A l) (hB : B ≤ w.heap.size) :
    Calls Try.prog 54 #[.slice A n cap, .int .i64 (m : Int)] w fun e w' => ∃ g, e = .returned (.slice (some ⟨g, 0, none⟩) n (n + m)) ∧ Own w' w.heap.size (some ⟨g, 0, none⟩) n (n + m) l ∧ Below w.heap.size w w' := by
  have Hl := Lib.hid hl; clear hl
  have hmk := run_make_bytes (n + m) (by omega)
  rw [show ((n + m : Nat) : Int) = (n : Int) + (m : Int) from by omega] at hmk
  have ho1 : Own (w.alloc (.cells (madeCells #[.int .u8 0] (n + m)) 5)) w.heap.size (some ⟨w.heap.size, 0, none⟩) 0 (n + m) [] :=
    own_made w w.heap.size _ (n + m) (Nat.le_refl _) (by simp only [maxLen]; omega) (size_madeCells _ _)
  have hbel : Below w.heap.size w (w.alloc (.cells (madeCells #[.int .u8 0] (n + m)) 5)) := (Below.refl _ _).alloc (Nat.le_refl _) _
  have hb1 := (hb.wide hB).below hbel
  clear hb
  go_enter Try.func54, Try.ntmps54
  go_wp2_with (at_builtin; refine wpList_append_fit rfl (.tmp 9) (.tmp 10) rfl w.heap.size _ 0 (n + m) [] rfl ho1 _ A n cap l rfl Hl.out hb1 (by omega) ?_; intro w1 ho2 hg2)
  go_ret
  rw [Nat.zero_add] at ho2
  exact ⟨w.heap.size, by simp, ho2, hbel.grown hg2 (by simp) (fun k hk => by cases hk; exact Nat.le_refl _)⟩

theorem byte_at {v k : Nat} {x : Int} (hx : x = (v : Int)) : bval (UInt8.ofNat (v / 256 ^ k)) = .int .u8 (x / 2 ^ (8 * k) % 256) := by
  rw [bval_ofNat, hx, Int.pow_mul, Int.natCast_ediv, Int.natCast_pow]
  rfl

set_option maxHeartbeats 1000000 in
theorem appendNumber_any (g n c base v : Nat) (l : List UInt8) (w : World) (hv : v < 18446744073709551616) (hown : Own w base (some ⟨g, 0, none⟩) n c l) (hroom : n + Num.size v ≤ c) :
    Calls Try.prog 53 #[.slice (some ⟨g, 0, none⟩) n c, .int .u64 (v : Int)] w fun e w' =>
      e = .returned (.slice (some ⟨g, 0, none⟩) (n + Num.size v) c) ∧ Own w' base (some ⟨g, 0, none⟩) (n + Num.size v) c (l ++ Num.num v) ∧ Below base w w' := by
  have hbase := hown.size
  have hblk := hown.block.1
  obtain ⟨x, hx, h0, h1⟩ : ∃ x : Int, x = (v : Int) ∧ 0 ≤ x ∧ x ≤ 18446744073709551615 := ⟨v, rfl, by omega, by omega⟩
  by_cases hs : v ≤ 247
  · have hone := own_one w (UInt8.ofNat v) x (by rw [bval_small (by omega), hx])
    have ho1 := hown.alloc (.cells #[.int .u8 x] 5)
    have hbel : Below base w (w.alloc (.cells #[.int .u8 x] 5)) := (Below.refl _ _).alloc hbase _
    have hsz : Num.size v = 1 := by unfold Num.size; rw [if_pos hs]
    have hnum : Num.num v = [UInt8.ofNat v] := by unfold Num.num; rw [if_pos hs]
    rw [hsz] at hroom ⊢
    rw [hnum, ← hx]
    have hs' : x ≤ 247 := by omega
    have hb1 := hone.bytes
    clear hx hv hs h1 hsz hnum hone
    go_enter Try.func53, Try.ntmps53
    go_wp2_with (at_builtin; refine wpList_append_fit rfl (.tmp 9) (.tmp 12) rfl base g n c l rfl ho1 _ _ 1 1 [UInt8.ofNat v] rfl rfl hb1 hroom ?_; intro w1 ho2 hg2)
    go_ret
    exact ⟨rfl, ho2, hbel.grown hg2 (by simp; omega) (fun k hk => by cases hk; exact hblk)⟩
  · have hK1 := Num.width_pos (v := v) (by omega) hv
    have hK8 := Num.width_le8 hv
    have hsz : Num.size v = 1 + Num.width v := by unfold Num.size; rw [if_neg hs]
    have hnum : Num.num v = UInt8.ofNat (247 + Num.width v) :: Num.le (Num.width v) v := by unfold Num.num; rw [if_neg hs]
    have H := Lib.hid (encodedSize_any v w hv)
    rw [hsz] at hroom H ⊢
    rw [← hx] at H ⊢
    generalize hK : Num.width v = K at *
    have hone := own_one w (UInt8.ofNat (247 + K)) (247 + (1 + (K : Int) - 1)) (by rw [bval_small (by omega)]; exact congrArg _ (by omega))
    have ho1 := hown.alloc (.cells #[.int .u8 (247 + (1 + (K : Int) - 1))] 5)
    have hbel : Below base w (w.alloc (.cells #[.int .u8 (247 + (1 + (K : Int) - 1))] 5)) := (Below.refl _ _).alloc hbase _
    have hb1 := hone.bytes
    have hs' : 247 < x := by omega
    have Hnum := Lib.hid hnum
    have Hx := Lib.hid hx
    have Hv := Lib.hid hv
    clear hx hv hs hsz hnum hone hK
    go_enter Try.func53, Try.ntmps53
    go_wp2_with fail
    refine H.out.mono ?_
    rintro e w0 ⟨rfl, rfl⟩
    clear H
    go_wp2_with (at_builtin; refine wpList_append_fit rfl (.tmp 17) (.tmp 21) rfl base g n c l rfl ho1 _ _ 1 1 [UInt8.ofNat (247 + K)] rfl rfl hb1 (by omega) ?_; intro w1 ho2 hg2)
    have hbel1 := hbel.grown hg2 (by simp; omega) (fun k hk => by cases hk; exact hblk)
    clear hb1 ho1 hown hg2
    go_loopw [0, 24] (fun s i wr => ∃ (k : Nat), k ≤ K ∧ i = .int .i64 k ∧ s = .slice (some ⟨g, 0, none⟩) (n + 1 + k) c ∧ Own wr base (some ⟨g, 0, none⟩) (n + 1 + k) c (l ++ [UInt8.ofNat (247 + K)] ++ Num.le k v) ∧ Below base w wr) (fun _ i _ => K - (intOf i).toNat)
    case atStart => exact ⟨0, by omega, rfl, rfl, by simpa [Num.le] using ho2, hbel1⟩
    case round =>
      obtain ⟨k, hk, rfl, rfl, ho, hb⟩ := hrel
      by_cases hlt : k < K
      · have hone := own_one wr (UInt8.ofNat (v / 256 ^ k)) (x / 2 ^ (8 * k) % 256) (byte_at Hx.out)
        have hb1 := hone.bytes
        have ho1 := ho.alloc (.cells #[.int .u8 (x / 2 ^ (8 * k) % 256)] 5)
        have hbel2 : Below base wr (wr.alloc (.cells #[.int .u8 (x / 2 ^ (8 * k) % 256)] 5)) := (Below.refl _ _).alloc ho.size _
        have hsz := ho.size
        clear hone ho
        go_wp2_with (at_builtin; refine wpList_append_fit rfl (.tmp 27) (.tmp 33) rfl base g (n + 1 + k) c _ rfl ho1 _ _ 1 1 [UInt8.ofNat (v / 256 ^ k)] rfl rfl hb1 (by omega) ?_; intro w2 ho3 hg3)
        have hbw2 := hbel2.grown hg3 (by simp; omega) (fun k hk => by cases hk; exact hblk)
        rw [List.append_assoc, ← Num.le_snoc] at ho3
        go_roundw
        case rel => exact ⟨k + 1, by omega, by go_num, rfl, ho3, hb.trans hbw2⟩
        case measure => simp [intOf]; omega
      · obtain rfl : k = K := by omega
        go_wp2
        go_ret
        rw [List.append_assoc, List.singleton_append, ← Hnum.out, Nat.add_assoc] at ho
        exact ⟨congrArg (fun m => Ending.returned (.slice (some ⟨g, 0, none⟩) m c)) (by omega), ho, hb⟩

/-- what a call leaves that returns a new byte slice: where it lies is known -/
def MadeIn (base : Nat) (w : World) (n : Nat) (l : List UInt8) (e : Ending) (w' : World) : Prop :=
  ∃ g c, e = .returned (.slice (some ⟨g, 0, none⟩) n c) ∧ Own w' base (some ⟨g, 0, none⟩) n c l ∧ Below base w w'

set_option maxHeartbeats 400000 in
theorem put_any (A : Option Addr) (n cap B v : Nat) (l : List UInt8) (w : World) (hl : l.length = n) (hv : v < 18446744073709551616) (hn : n ≤ 140737488355328) (hb : Bytes w B A l) (hB : B ≤ w.heap.size) :
    Calls Try.prog 39 #[.slice A n cap, .int .u64 (v : Int)] w (MadeIn w.heap.size w (n + Num.size v) (l ++ Num.num v)) := by
  have h9 := Num.size_le9 hv
  have H1 := Lib.hid (encodedSize_any v w hv)
  have H2 := Lib.hid (copyWithRoom_any A n cap B (Num.size v) l w hl (by omega) hb hB)
  have H3 := Lib.hid fun g c w' => appendNumber_any g n c w.heap.size v l w' hv
  generalize Num.size v = s at *
  generalize Num.num v = N at *
  obtain ⟨x, hx⟩ : ∃ x : Int, x = (v : Int) := ⟨v, rfl⟩
  rw [← hx] at H1 H3 ⊢
  clear hx hv hb hB
  go_enter Try.func39, Try.ntmps39
  go_wp2_with fail
  refine H1.out.mono ?_
  rintro e w1 ⟨rfl, rfl⟩
  go_wp2_with fail
  refine H2.out.mono ?_
  rintro e w1 ⟨g, rfl, ho, hb⟩
  clear H1 H2
  go_wp2_with fail
  refine (H3.out g (n + s) w1 ho (Nat.le_refl _)).mono ?_
  rintro e w2 ⟨rfl, ho2, hb2⟩
  clear H3
  go_wp2
  go_ret
  exact ⟨g, n + s, rfl, ho2, hb.trans hb2⟩
end Go.Proofs.Ytmcioglidgbibaa
