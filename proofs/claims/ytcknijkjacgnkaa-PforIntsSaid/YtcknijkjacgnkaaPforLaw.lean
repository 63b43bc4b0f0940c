/- What the laws on blocks share: alive; copies and comparisons of long lists of numbers. -/
import Derived.Test.YtcknijkjacgnkaaConcat
import Derived.Test.YtcknijkjacgnkaaRefBlock
import Derived.Test.YtcknijkjacgnkaaRefUnpack
import Derived.Test.YtcknijkjacgnkaaCopy
import Derived.Test.YtcknijkjacgnkaaBytesEq
import Derived.Test.YtcknijkjacgnkaaLawIn
namespace Go.Proofs.Ytcknijkjacgnkaa
open Go.RowKit

theorem copy64_wide (A : Option Addr) (n cap B : Nat) (l : List UInt64) (w : World) (hl : l.length = n) (hn : 8 * n ≤ 140737488351232) (hb : Nums w B A l) (hB : B ≤ w.heap.size) :
    Calls Try.prog 11 #[.slice A n cap] w fun e w' => ∃ A' c, e = .returned (.slice A' n c) ∧ NOwn w' w.heap.size A' n c l ∧ Below w.heap.size w w' := by
  have Hl := Lib.hid hl; clear hl
  go_enter Try.func11, Try.ntmps11
  have hb1 : Nums (w.alloc (.cells #[] 50)) B A l := hb.below ((Below.refl _ _).alloc hB _)
  have ho1 : NOwn (w.alloc (.cells #[] 50)) w.heap.size (some ⟨w.heap.size, 0, none⟩) 0 0 [] := ROwn.made w w.heap.size #[] 0 (Nat.le_refl _) (by simp only [maxLen]; omega) rfl
  have hbel : Below w.heap.size w (w.alloc (.cells #[] 50)) := (Below.refl _ _).alloc (Nat.le_refl _) _
  clear hb
  go_wp2_with (at_builtin; refine wpList_append_row elem64 rfl (.tmp 3) (.tmp 4) rfl w.heap.size _ 0 0 [] rfl ho1 B A n cap l rfl Hl.out hb1 (by omega) (by simp only [maxLen]; omega) (by simp) ?_; intro A1 c1 w1 ho2 hg2 hat2)
  go_ret
  rw [Nat.zero_add] at ho2
  refine ⟨A1, c1, by simp, ho2, hbel.grown hg2 (by simp) ?_⟩
  intro k hk
  simp [blk] at hk
  omega

set_option maxHeartbeats 400000 in
theorem same64_wide (A1 A2 : Option Addr) (n c1 c2 B1 B2 : Nat) (l : List UInt64) (w : World) (hl : l.length = n) (hn : 8 * n ≤ 140737488351232) (h1 : Nums w B1 A1 l) (h2 : Nums w B2 A2 l) :
    Calls Try.prog 14 #[.slice A1 n c1, .slice A2 n c2] w fun e w' => e = .returned (.bool true) ∧ Drawn w w' := by
  have Hl := Lib.hid hl; clear hl
  have hnn : ((n : Int) != (n : Int)) = false := by simp
  go_enter Try.func14, Try.ntmps14
  go_wp2
  go_loopw [5] (fun i wr => ∃ (k : Nat), k ≤ n ∧ i = .int .i64 k ∧ Nums wr B1 A1 l ∧ Nums wr B2 A2 l ∧ Drawn w wr) (fun i _ => n - (intOf i).toNat)
  case atStart => exact ⟨0, Nat.zero_le _, rfl, h1, h2, Drawn.refl _⟩
  case round =>
    clear h1 h2
    obtain ⟨k, hk, rfl, h1, h2, hd⟩ := hrel
    by_cases hlt : k < n
    · have hk' : k < l.length := by have := Hl.out; omega
      obtain ⟨ad1, rfl, _, hc1⟩ := h1.get hk'
      obtain ⟨ad2, rfl, _, hc2⟩ := h2.get hk'
      simp only [uval] at hc1 hc2
      generalize (l[k].toNat : Int) = x at hc1 hc2
      have hxx : (x != x) = false := by simp
      have i1 : (k : Int) < (n : Int) := by omega
      have i0 : (0 : Int) ≤ (k : Int) := by omega
      go_wp2_with fail
      go_quiet (fail)
      go_wp2
      go_roundw
      case rel => exact ⟨k + 1, by omega, by go_num, h1, h2, hd.drewN _⟩
      case measure => simp [intOf]; omega
    · go_wp2
      go_ret
      exact ⟨rfl, hd⟩

theorem put_576 : Pfor.putBlock [9] [5, 7, 6] = ([9, 3, 5, 2, 0, 24], 0) := by decide +kernel

set_option maxHeartbeats 1000000 in
theorem alive_any (w : World) : Calls Try.prog 9 #[] w fun e w' => e = .returned (.bool true) ∧ Below w.heap.size w w' := by
  have hlit1 := own_byte w 9 9 rfl
  have hb1 : Below w.heap.size w (w.alloc (.cells #[.int .u8 9] 5)) := (Below.refl _ _).alloc (Nat.le_refl _) _
  generalize hw1 : w.alloc (.cells #[.int .u8 9] 5) = w1 at *
  have hsz1 : w1.heap.size = w.heap.size + 1 := by rw [← hw1]; simp
  have Hw1 := Lib.hid hw1; clear hw1
  have hlit2 : NOwn (w1.alloc (.cells #[.int .u64 5, .int .u64 7, .int .u64 6] 50)) w1.heap.size (some ⟨w1.heap.size, 0, none⟩) 3 3 [5, 7, 6] :=
    ROwn.lit (f := uval) (e := 50) w1 w1.heap.size [5, 7, 6] (Nat.le_refl _) (by simp only [maxLen, List.length_cons, List.length_nil]; omega)
  have hb2 : Below w.heap.size w (w1.alloc (.cells #[.int .u64 5, .int .u64 7, .int .u64 6] 50)) := hb1.alloc hb1.size _
  have hl1 := (hlit1.alloc (.cells #[.int .u64 5, .int .u64 7, .int .u64 6] 50)).bytes
  have H := putBlock_any _ _ 1 1 3 3 _ [9] [5, 7, 6] _ rfl rfl (by omega) (by omega) hl1 hlit2.row (Nat.le_refl _)
  rw [put_576, hsz1] at H
  rw [← Hw1.out] at H hb2
  replace H := Lib.hid H
  clear hlit1 hlit2 hl1 hb1 hsz1 Hw1
  go_enter Try.func9, Try.ntmps9
  go_wp2_with fail
  refine H.out.mono ?_
  rintro e w2 ⟨A, c, rfl, ho, hb⟩
  clear H
  simp only [List.length_cons, List.length_nil, Nat.zero_add, Int.natCast_zero] at ho ⊢
  have hb' := hb2.trans (hb.mono hb2.size)
  have hlit := own_lit w2 w2.heap.size [9, 3, 5, 2, 0, 24] (Nat.le_refl _) (by simp only [maxLen, List.length_cons, List.length_nil]; omega)
  have e : (bvals [9, 3, 5, 2, 0, 24]).toArray = #[.int .u8 9, .int .u8 3, .int .u8 5, .int .u8 2, .int .u8 0, .int .u8 24] := rfl
  rw [e] at hlit
  have hb3 : Below w2.heap.size w2 (w2.alloc (.cells #[.int .u8 9, .int .u8 3, .int .u8 5, .int .u8 2, .int .u8 0, .int .u8 24] 5)) := (Below.refl _ _).alloc (Nat.le_refl _) _
  have S := same_any A (some ⟨w2.heap.size, 0, none⟩) 6 6 c 6 _ _ [9, 3, 5, 2, 0, 24] [9, 3, 5, 2, 0, 24] _ rfl rfl (ho.below hb3).bytes hlit.bytes
  rw [beq_self_eq_true] at S
  replace S := Lib.hid S
  have hb4 := hb'.trans (hb3.mono hb'.size)
  clear hlit ho e hb2 hb hb' hb3
  go_wp2_with fail
  refine S.out.mono ?_
  rintro e w3 ⟨rfl, rfl⟩
  clear S
  go_wp2
  go_ret
  exact ⟨rfl, hb4⟩
end Go.Proofs.Ytcknijkjacgnkaa
