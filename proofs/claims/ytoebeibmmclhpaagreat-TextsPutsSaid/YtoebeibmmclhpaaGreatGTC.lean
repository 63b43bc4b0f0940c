/- Texts of several layers, one behind the other: Len64 EncSize Put RefNum Take RefTake PutRow RefRow Clone TakeRow CutFrom Step Concat2 Reader. -/
import Derived.Test.YtoebeibmmclhpaaGreatGTA
import Derived.Lib.BitFns
import Derived.WalkSpells
import Derived.WalkLawsBesides
import Derived.Laws.BitsAllLaws
import Derived.Lib.AppendZerosOnto
import Derived.LoopN
import Derived.Lib.BufferOwn
import Derived.Deep.RegionHeld3
import Derived.RegionTactic
/- math/bits.Len64: how many bits a number has. -/
namespace Go.Proofs.YtoebeibmmclhpaaGreat
open Go.RowKit
set_option maxRecDepth 100000
/-- the end of each way: k bits were shifted out, a byte is left -/
theorem len_end {v : Nat} (k : Nat) (q : Int) (hv : v < 18446744073709551616) (h : 2 ^ k ≤ v) (hq : q = ((v / 2 ^ k : Nat) : Int)) (hz : v / 2 ^ k < 256)
    (hk : k ≤ 56) : wrap64 ((k : Int) + wrap64 (Lib.len8 q)) = (Lib.bitLen v : Int) := by
  rw [Lib.bitLen_shift k v h (by omega)]
  generalize v / 2 ^ k = y at hq hz
  subst hq
  have h8 := Lib.bitLen_le8 ⟨y, hz⟩
  simp only at h8
  rw [Lib.len8_of _ (by omega) (by omega), Int.toNat_natCast]
  unfold wrap64
  omega
theorem len_end0 {v : Nat} (hz : v < 256) : Lib.len8 (v : Int) = (Lib.bitLen v : Int) ∧ Lib.bitLen v ≤ 8 := by
  have h8 := Lib.bitLen_le8 ⟨v, hz⟩
  exact ⟨by rw [Lib.len8_of _ (by omega) (by omega), Int.toNat_natCast], h8⟩
theorem bitLen_le64 {v : Nat} (hv : v < 18446744073709551616) : Lib.bitLen v ≤ 64 := Lib.bitLen_le v 64 (Nat.le_refl _) (by omega)
set_option maxHeartbeats 1000000 in
theorem len64_any (v : Nat) (w : World) (hv : v < 18446744073709551616) :
    Calls Tryz.prog 76 #[.int .u64 (v : Int)] w fun e w' => e = .returned (.int .i64 (Lib.bitLen v : Int)) ∧ w = w' := by
  obtain ⟨x, hx, h0, h1⟩ : ∃ x : Int, x = (v : Int) ∧ 0 ≤ x ∧ x ≤ 18446744073709551615 := ⟨v, rfl, by omega, by omega⟩
  rw [← hx]
  have Hx := Lib.hid hx; clear hx
  have Hv := Lib.hid hv; clear hv
  go_enter Tryz.func76, Tryz.ntmps76
  conv in Value.string _ => change Value.string Lib.len8tab
  have hidx := fun (i : Int) (u : World) => Lib.run_index_len8tab (P := Tryz.prog) u 9 .u8 i Tryz.underlying9
  generalize Value.string Lib.len8tab = T at hidx ⊢
  go_wp2
  all_goals rw [hidx _ _ (by omega) (by omega)]
  all_goals go_wp2
  all_goals go_ret
  all_goals refine ⟨congrArg Ending.returned (congrArg (Value.int IntKind.i64) ?_), rfl⟩
  all_goals clear hidx
  all_goals have hx := Hx.out
  all_goals have hv := Hv.out
  all_goals subst hx
  · exact len_end 56 _ hv (by omega) (by omega) (by omega) (by omega)
  · exact len_end 48 _ hv (by omega) (by omega) (by omega) (by omega)
  · exact len_end 40 _ hv (by omega) (by omega) (by omega) (by omega)
  · exact len_end 32 _ hv (by omega) (by omega) (by omega) (by omega)
  · exact len_end 24 _ hv (by omega) (by omega) (by omega) (by omega)
  · exact len_end 16 _ hv (by omega) (by omega) (by omega) (by omega)
  · exact len_end 8 _ hv (by omega) (by omega) (by omega) (by omega)
  · obtain ⟨e1, e2⟩ := len_end0 (v := v) (by omega)
    rw [e1]
    unfold wrap64
    omega
end Go.Proofs.YtoebeibmmclhpaaGreat

/- num.encodedSize -/
namespace Go.Proofs.YtoebeibmmclhpaaGreat
open Go.RowKit
set_option maxRecDepth 100000
/-- num.encodedSize -/
theorem encodedSize_any (v : Nat) (w : World) (hv : v < 18446744073709551616) :
    Calls Tryz.prog 43 #[.int .u64 (v : Int)] w fun e w' => e = .returned (.int .i64 (Num.size v : Int)) ∧ w = w' := by
  have H := Lib.hid (len64_any v w hv)
  have hs : Num.size v = if v ≤ 247 then 1 else 1 + (Lib.bitLen v + 7) / 8 := rfl
  have hle := bitLen_le64 hv
  obtain ⟨x, hx, h0, h1⟩ : ∃ x : Int, x = (v : Int) ∧ 0 ≤ x ∧ x ≤ 18446744073709551615 := ⟨v, rfl, by omega, by omega⟩
  rw [← hx] at H ⊢
  generalize Num.size v = s at hs
  generalize Lib.bitLen v = B at hs hle H
  by_cases hc : v ≤ 247
  · rw [if_pos hc] at hs
    subst hs
    have hc' : x ≤ 247 := by omega
    clear hx hv h1
    go_enter Tryz.func43, Tryz.ntmps43
    go_wp2
    go_ret
    exact ⟨rfl, rfl⟩
  · rw [if_neg hc] at hs
    subst hs
    have hc' : 247 < x := by omega
    clear hx hv hc
    go_enter Tryz.func43, Tryz.ntmps43
    go_wp2_with fail
    refine H.out.mono ?_
    rintro e w1 ⟨rfl, rfl⟩
    clear H
    go_wp2
    go_ret
    refine ⟨congrArg (fun z => Ending.returned (.int .i64 z)) ?_, rfl⟩
    omega
end Go.Proofs.YtoebeibmmclhpaaGreat

/- num.copyWithRoom, num.appendNumber, num.Put, num.PutInt, num.PutRow. -/
namespace Go.Proofs.YtoebeibmmclhpaaGreat
open Go.RowKit
set_option maxRecDepth 100000
theorem copyWithRoom_any (A : Option Addr) (n cap B m : Nat) (l : List UInt8) (w : World) (hl : l.length = n) (hn : n + m ≤ 281474976710656) (hb : Bytes w B A l) (hB : B ≤ w.heap.size) :
    Calls Tryz.prog 42 #[.slice A n cap, .int .i64 (m : Int)] w fun e w' => ∃ g, e = .returned (.slice (some ⟨g, 0, none⟩) n (n + m)) ∧ Own w' w.heap.size (some ⟨g, 0, none⟩) n (n + m) l ∧ Below w.heap.size w w' := by
  have Hl := Lib.hid hl; clear hl
  have hmk := run_make_bytes (n + m) (by omega)
  rw [show ((n + m : Nat) : Int) = (n : Int) + (m : Int) from by omega] at hmk
  have ho1 : Own (w.alloc (.cells (madeCells #[.int .u8 0] (n + m)) 5)) w.heap.size (some ⟨w.heap.size, 0, none⟩) 0 (n + m) [] :=
    own_made w w.heap.size _ (n + m) (Nat.le_refl _) (by simp only [maxLen]; omega) (size_madeCells _ _)
  have hbel : Below w.heap.size w (w.alloc (.cells (madeCells #[.int .u8 0] (n + m)) 5)) := (Below.refl _ _).alloc (Nat.le_refl _) _
  have hb1 := (hb.wide hB).below hbel
  clear hb
  go_enter Tryz.func42, Tryz.ntmps42
  go_wp2_with (at_builtin; refine wpList_append_fit rfl (.tmp 9) (.tmp 10) rfl w.heap.size _ 0 (n + m) [] rfl ho1 _ A n cap l rfl Hl.out hb1 (by omega) ?_; intro w1 ho2 hg2)
  go_ret
  rw [Nat.zero_add] at ho2
  exact ⟨w.heap.size, by simp, ho2, hbel.grown hg2 (by simp) (fun k hk => by cases hk; exact Nat.le_refl _)⟩
theorem byte_at {v k : Nat} {x : Int} (hx : x = (v : Int)) : bval (UInt8.ofNat (v / 256 ^ k)) = .int .u8 (x / 2 ^ (8 * k) % 256) := by
  rw [bval_ofNat, hx, Int.pow_mul, Int.natCast_ediv, Int.natCast_pow]
  rfl
set_option maxHeartbeats 1000000 in
theorem appendNumber_any (g n c base v : Nat) (l : List UInt8) (w : World) (hv : v < 18446744073709551616) (hown : Own w base (some ⟨g, 0, none⟩) n c l) (hroom : n + Num.size v ≤ c) :
    Calls Tryz.prog 44 #[.slice (some ⟨g, 0, none⟩) n c, .int .u64 (v : Int)] w fun e w' =>
      e = .returned (.slice (some ⟨g, 0, none⟩) (n + Num.size v) c) ∧ Own w' base (some ⟨g, 0, none⟩) (n + Num.size v) c (l ++ Num.num v) ∧ Below base w w' := by
  have hbase := hown.size
  have hblk := hown.block.1
  obtain ⟨x, hx, h0, h1⟩ : ∃ x : Int, x = (v : Int) ∧ 0 ≤ x ∧ x ≤ 18446744073709551615 := ⟨v, rfl, by omega, by omega⟩
  by_cases hs : v ≤ 247
  · have hone := own_one w (UInt8.ofNat v) x (by rw [bval_small (by omega), hx])
    have ho1 := hown.alloc (.cells #[.int .u8 x] 5)
    have hbel : Below base w (w.alloc (.cells #[.int .u8 x] 5)) := (Below.refl _ _).alloc hbase _
    have hsz : Num.size v = 1 := by unfold Num.size; rw [if_pos hs]
    have hnum : Num.num v = [UInt8.ofNat v] := by unfold Num.num; rw [if_pos hs]
    rw [hsz] at hroom ⊢
    rw [hnum, ← hx]
    have hs' : x ≤ 247 := by omega
    have hb1 := hone.bytes
    clear hx hv hs h1 hsz hnum hone
    go_enter Tryz.func44, Tryz.ntmps44
    go_wp2_with (at_builtin; refine wpList_append_fit rfl (.tmp 9) (.tmp 12) rfl base g n c l rfl ho1 _ _ 1 1 [UInt8.ofNat v] rfl rfl hb1 hroom ?_; intro w1 ho2 hg2)
    go_ret
    exact ⟨rfl, ho2, hbel.grown hg2 (by simp; omega) (fun k hk => by cases hk; exact hblk)⟩
  · have hK1 := Num.width_pos (v := v) (by omega) hv
    have hK8 := Num.width_le8 hv
    have hsz : Num.size v = 1 + Num.width v := by unfold Num.size; rw [if_neg hs]
    have hnum : Num.num v = UInt8.ofNat (247 + Num.width v) :: Num.le (Num.width v) v := by unfold Num.num; rw [if_neg hs]
    have H := Lib.hid (encodedSize_any v w hv)
    rw [hsz] at hroom H ⊢
    rw [← hx] at H ⊢
    generalize hK : Num.width v = K at *
    have hone := own_one w (UInt8.ofNat (247 + K)) (247 + (1 + (K : Int) - 1)) (by rw [bval_small (by omega)]; exact congrArg _ (by omega))
    have ho1 := hown.alloc (.cells #[.int .u8 (247 + (1 + (K : Int) - 1))] 5)
    have hbel : Below base w (w.alloc (.cells #[.int .u8 (247 + (1 + (K : Int) - 1))] 5)) := (Below.refl _ _).alloc hbase _
    have hb1 := hone.bytes
    have hs' : 247 < x := by omega
    have Hnum := Lib.hid hnum
    have Hx := Lib.hid hx
    have Hv := Lib.hid hv
    clear hx hv hs hsz hnum hone hK
    go_enter Tryz.func44, Tryz.ntmps44
    go_wp2_with fail
    refine H.out.mono ?_
    rintro e w0 ⟨rfl, rfl⟩
    clear H
    go_wp2_with (at_builtin; refine wpList_append_fit rfl (.tmp 17) (.tmp 21) rfl base g n c l rfl ho1 _ _ 1 1 [UInt8.ofNat (247 + K)] rfl rfl hb1 (by omega) ?_; intro w1 ho2 hg2)
    have hbel1 := hbel.grown hg2 (by simp; omega) (fun k hk => by cases hk; exact hblk)
    clear hb1 ho1 hown hg2
    go_loopw [0, 24] (fun s i wr => ∃ (k : Nat), k ≤ K ∧ i = .int .i64 k ∧ s = .slice (some ⟨g, 0, none⟩) (n + 1 + k) c ∧ Own wr base (some ⟨g, 0, none⟩) (n + 1 + k) c (l ++ [UInt8.ofNat (247 + K)] ++ Num.le k v) ∧ Below base w wr) (fun _ i _ => K - (intOf i).toNat)
    case atStart => exact ⟨0, by omega, rfl, rfl, by simpa [Num.le] using ho2, hbel1⟩
    case round =>
      obtain ⟨k, hk, rfl, rfl, ho, hb⟩ := hrel
      by_cases hlt : k < K
      · have hone := own_one wr (UInt8.ofNat (v / 256 ^ k)) (x / 2 ^ (8 * k) % 256) (byte_at Hx.out)
        have hb1 := hone.bytes
        have ho1 := ho.alloc (.cells #[.int .u8 (x / 2 ^ (8 * k) % 256)] 5)
        have hbel2 : Below base wr (wr.alloc (.cells #[.int .u8 (x / 2 ^ (8 * k) % 256)] 5)) := (Below.refl _ _).alloc ho.size _
        have hsz := ho.size
        clear hone ho
        go_wp2_with (at_builtin; refine wpList_append_fit rfl (.tmp 27) (.tmp 33) rfl base g (n + 1 + k) c _ rfl ho1 _ _ 1 1 [UInt8.ofNat (v / 256 ^ k)] rfl rfl hb1 (by omega) ?_; intro w2 ho3 hg3)
        have hbw2 := hbel2.grown hg3 (by simp; omega) (fun k hk => by cases hk; exact hblk)
        rw [List.append_assoc, ← Num.le_snoc] at ho3
        go_roundw
        case rel => exact ⟨k + 1, by omega, by go_num, rfl, ho3, hb.trans hbw2⟩
        case measure => simp [intOf]; omega
      · obtain rfl : k = K := by omega
        go_wp2
        go_ret
        rw [List.append_assoc, List.singleton_append, ← Hnum.out, Nat.add_assoc] at ho
        exact ⟨congrArg (fun m => Ending.returned (.slice (some ⟨g, 0, none⟩) m c)) (by omega), ho, hb⟩
/-- what a call leaves that returns a new byte slice: where it lies is known -/
def MadeIn (base : Nat) (w : World) (n : Nat) (l : List UInt8) (e : Ending) (w' : World) : Prop :=
  ∃ g c, e = .returned (.slice (some ⟨g, 0, none⟩) n c) ∧ Own w' base (some ⟨g, 0, none⟩) n c l ∧ Below base w w'
set_option maxHeartbeats 400000 in
theorem put_any (A : Option Addr) (n cap B v : Nat) (l : List UInt8) (w : World) (hl : l.length = n) (hv : v < 18446744073709551616) (hn : n ≤ 140737488355328) (hb : Bytes w B A l) (hB : B ≤ w.heap.size) :
    Calls Tryz.prog 45 #[.slice A n cap, .int .u64 (v : Int)] w (MadeIn w.heap.size w (n + Num.size v) (l ++ Num.num v)) := by
  have h9 := Num.size_le9 hv
  have H1 := Lib.hid (encodedSize_any v w hv)
  have H2 := Lib.hid (copyWithRoom_any A n cap B (Num.size v) l w hl (by omega) hb hB)
  have H3 := Lib.hid fun g c w' => appendNumber_any g n c w.heap.size v l w' hv
  generalize Num.size v = s at *
  generalize Num.num v = N at *
  obtain ⟨x, hx⟩ : ∃ x : Int, x = (v : Int) := ⟨v, rfl⟩
  rw [← hx] at H1 H3 ⊢
  clear hx hv hb hB
  go_enter Tryz.func45, Tryz.ntmps45
  go_wp2_with fail
  refine H1.out.mono ?_
  rintro e w1 ⟨rfl, rfl⟩
  go_wp2_with fail
  refine H2.out.mono ?_
  rintro e w1 ⟨g, rfl, ho, hb⟩
  clear H1 H2
  go_wp2_with fail
  refine (H3.out g (n + s) w1 ho (Nat.le_refl _)).mono ?_
  rintro e w2 ⟨rfl, ho2, hb2⟩
  clear H3
  go_wp2
  go_ret
  exact ⟨g, n + s, rfl, ho2, hb.trans hb2⟩
end Go.Proofs.YtoebeibmmclhpaaGreat

/- dragnetref02.Bytes, Int and Row: the document's encodings. -/
namespace Go.Proofs.YtoebeibmmclhpaaGreat
open Go.RowKit
set_option maxRecDepth 100000
theorem Num.pow_le {v k : Nat} (hv : v < 18446744073709551616) (hk : k < Num.width v) : 256 ^ k ≤ v := by
  rcases Nat.lt_or_ge v (256 ^ k) with hlt | hge
  · have h8 := Num.width_le8 hv
    have := Num.width_le (by omega) hlt
    omega
  · exact hge
theorem run_index_own (g m c i : Nat) (hi : i < m) (u : World) : (Instr.indexAt 22 (.slice (some ⟨g, 0, none⟩) m c) (.int .i64 (i : Int))).run Tryz.prog u = .ok (.pointer (some ⟨g, i, none⟩)) u := by
  obtain ⟨i0, hi0, hz0, hz1, hz2⟩ := info_parts byte_info
  have he : Tryz.prog.elem 22 = 5 := by kernel_rfl
  rw [run_indexAt_slice _ _ _ _ _ _ _ Tryz.underlying22, if_pos ⟨by omega, by omega⟩, he]
  by_cases h0 : i = 0 <;> simp [sizeOf, typeInfo, hi0, hz1, Addr.add, h0]
set_option maxHeartbeats 1000000 in
theorem refBytes_any (v : Nat) (w : World) (hv : v < 18446744073709551616) :
    Calls Tryz.prog 54 #[.int .u64 (v : Int)] w (MadeIn w.heap.size w (Num.size v) (Num.num v)) := by
  obtain ⟨x, hx, h0, h1⟩ : ∃ x : Int, x = (v : Int) ∧ 0 ≤ x ∧ x ≤ 18446744073709551615 := ⟨v, rfl, by omega, by omega⟩
  rw [← hx]
  by_cases hs : v ≤ 247
  · have hone := own_one w (UInt8.ofNat v) x (by rw [bval_small (by omega), hx])
    have hbel : Below w.heap.size w (w.alloc (.cells #[.int .u8 x] 5)) := (Below.refl _ _).alloc (Nat.le_refl _) _
    have hsz : Num.size v = 1 := by unfold Num.size; rw [if_pos hs]
    have hnum : Num.num v = [UInt8.ofNat v] := by unfold Num.num; rw [if_pos hs]
    rw [hsz, hnum]
    have hs' : x ≤ 247 := by omega
    clear hx hv hs h1 hsz hnum
    go_enter Tryz.func54, Tryz.ntmps54
    go_wp2
    go_ret
    exact ⟨_, _, rfl, hone, hbel⟩
  · have hK8 := Num.width_le8 hv
    have hsz : Num.size v = 1 + Num.width v := by unfold Num.size; rw [if_neg hs]
    have hnum : Num.num v = UInt8.ofNat (247 + Num.width v) :: Num.le (Num.width v) v := by unfold Num.num; rw [if_neg hs]
    have hlt := Num.lt_width hv
    have hge := fun k => Num.pow_le (v := v) (k := k) hv
    rw [hsz, hnum]
    generalize Num.width v = K at *
    have hone := own_one w (247 : UInt8) 247 rfl
    have hbel : Below w.heap.size w (w.alloc (.cells #[.int .u8 247] 5)) := (Below.refl _ _).alloc (Nat.le_refl _) _
    have hs' : 247 < x := by omega
    have Hx := Lib.hid hx
    have Hlt := Lib.hid hlt
    have Hge := Lib.hid hge
    clear hx hv hs hsz hnum hlt hge
    go_enter Tryz.func54, Tryz.ntmps54
    go_wp2
    go_loopw [0, 3] (fun y s wr => ∃ (k : Nat) (z : Int) (A : Option Addr) (c : Nat), k ≤ K ∧ y = .int .u64 z ∧ z = ((v / 256 ^ k : Nat) : Int) ∧ 0 ≤ z ∧ z ≤ 18446744073709551615 ∧ s = .slice A (k + 1) c ∧ Own wr w.heap.size A (k + 1) c (UInt8.ofNat (247 + k) :: Num.le k v) ∧ Below w.heap.size w wr) (fun y _ _ => (intOf y).toNat)
    case atStart => exact ⟨0, x, _, _, by omega, rfl, by rw [Hx.out]; simp, h0, h1, rfl, hone, hbel⟩
    case round =>
      obtain ⟨k, z, A, c, hk, rfl, hz, hz0, hz1, rfl, ho, hb⟩ := hrel
      have Hz := Lib.hid hz; clear hz
      by_cases hlt : k < K
      · have hpos : 0 < z := by
          have h1 := Hge.out k hlt
          have h2 : 0 < v / 256 ^ k := Nat.div_pos h1 (Nat.pow_pos (by omega))
          rw [Hz.out]; omega
        have hone := own_one wr (UInt8.ofNat (v / 256 ^ k)) (z % 256) (by rw [bval_ofNat, Hz.out])
        have hb1 := hone.bytes
        have ho1 := ho.alloc (.cells #[.int .u8 (z % 256)] 5)
        have hbel2 : Below w.heap.size w (wr.alloc (.cells #[.int .u8 (z % 256)] 5)) := hb.alloc hb.size _
        have hsz : w.heap.size ≤ (wr.alloc (.cells #[.int .u8 (z % 256)] 5)).heap.size := hbel2.size
        clear hone ho
        go_wp2_with (at_builtin; refine wpList_append_bytes rfl (.tmp 12) (.tmp 16) rfl w.heap.size A (k + 1) c _ rfl ho1 _ _ 1 1 [UInt8.ofNat (v / 256 ^ k)] rfl rfl hb1 (by omega) hsz ?_; intro A2 c2 w2 ho3 hg3 hat3)
        have hbw2 := hbel2.grown hg3 hsz (fun k hk => (ho1.lt hk).1)
        rw [List.cons_append, ← Num.le_snoc] at ho3
        obtain ⟨g, rfl, hg1, hg2⟩ := ho3.at_ (by omega)
        have hcell := ho3.cell (k := 0) (by simp)
        simp only [List.getElem_cons_zero, Num.toNat_ofNat, Nat.mod_eq_of_lt (show 247 + k < 256 by omega)] at hcell
        have hfree := ho3.free 0
        have hst := ho3.store 0 (UInt8.ofNat (247 + (k + 1)))
        rw [bval_small (by omega), List.set_cons_zero] at hst
        rw [show ((247 + (k + 1) : Nat) : Int) = 247 + (k : Int) + 1 from by omega] at hst
        rw [show ((247 + k : Nat) : Int) = 247 + (k : Int) from by omega] at hcell
        have Hst := Lib.hid hst
        have Hbl := Lib.hid (hbw2.setCell (p := ⟨g, 0, none⟩) hg1 (.int .u8 (247 + (k : Int) + 1)))
        clear hst ho3 ho1 hb1 hg3 hat3 hsz hbel2 hbw2 hg1 hg2
        have hidx := run_index_own g (k + 1 + 1) c2 0 (by omega)
        simp only [Int.natCast_zero] at hidx
        rw [hidx]
        go_wp2
        go_roundw
        case rel => exact ⟨k + 1, z / 256, _, c2, by omega, rfl, by rw [Hz.out, Nat.pow_succ, ← Nat.div_div_eq_div_mul]; omega, by omega, by omega, by go_num, Hst.out, Hbl.out⟩
        case measure => simp [intOf]; omega
      · obtain rfl : k = K := by omega
        have hz : z = 0 := by rw [Hz.out, Nat.div_eq_of_lt Hlt.out]; rfl
        subst hz
        go_wp2
        go_ret
        obtain ⟨g, rfl, _⟩ := ho.at_ (by omega)
        rw [Nat.add_comm k 1] at ho
        exact ⟨g, c, congrArg (fun m => Ending.returned (.slice (some ⟨g, 0, none⟩) m c)) (by omega), ho, hb⟩
end Go.Proofs.YtoebeibmmclhpaaGreat

/- num.readNumber, num.Take, num.TakeInt; the document's Take. -/
namespace Go.Proofs.YtoebeibmmclhpaaGreat
open Go.RowKit
set_option maxRecDepth 100000
theorem or_at {Y b k : Nat} {y : Int} (hy : y = (Y : Int)) (hY : Y < 256 ^ k) (hb : b < 256) (hk : k ≤ 7) : bits .or .u64 y (IntKind.u64.wrap ((b : Int) * 2 ^ (8 * k))) = ((Y + b * 256 ^ k : Nat) : Int) := by
  have hp : (256 : Nat) ^ (k + 1) ≤ 18446744073709551616 := Nat.le_trans (Nat.pow_le_pow_right (by omega) (show k + 1 ≤ 8 by omega)) (by decide)
  have h1 : b * 256 ^ k < 256 ^ (k + 1) := by rw [Nat.pow_succ, Nat.mul_comm (256 ^ k)]; exact Nat.mul_lt_mul_of_pos_right hb (Nat.pow_pos (by omega))
  have hY2 : Y < 18446744073709551616 := Nat.lt_of_lt_of_le hY (Nat.le_trans (Nat.pow_le_pow_right (by omega) (show k ≤ 8 by omega)) (by decide))
  have e : (b : Int) * 2 ^ (8 * k) = ((b * 256 ^ k : Nat) : Int) := by rw [Int.natCast_mul, Int.natCast_pow, Int.pow_mul]; rfl
  have hw : IntKind.u64.wrap ((b * 256 ^ k : Nat) : Int) = ((b * 256 ^ k : Nat) : Int) := by
    have : IntKind.u64.wrap ((b * 256 ^ k : Nat) : Int) = ((b * 256 ^ k : Nat) : Int) % 18446744073709551616 := by simp [IntKind.wrap, IntKind.bits, IntKind.signed]
    rw [this]
    omega
  rw [e, hw, hy, u64_or_nat Y (b * 256 ^ k) hY2 (by omega)]
  congr 1
  have h2 : (256 : Nat) ^ k = 2 ^ (8 * k) := by rw [Nat.pow_mul]
  rw [h2] at hY ⊢
  have := Nat.two_pow_add_eq_or_of_lt hY b
  rw [Nat.or_comm, Nat.mul_comm b, ← this]
  omega
theorem Num.val_take_succ {l : List UInt8} {k : Nat} (hk : k < l.length) : Num.val (l.take (k + 1)) = Num.val (l.take k) + l[k].toNat * 256 ^ k := by
  rw [List.take_succ_eq_append_getElem hk, Num.val_snoc, List.length_take, Nat.min_eq_left (by omega)]
theorem Num.val_take_lt {l : List UInt8} {k : Nat} (hk : k ≤ l.length) : Num.val (l.take k) < 256 ^ k := by
  have := Num.val_lt (l.take k)
  rwa [List.length_take, Nat.min_eq_left hk] at this
set_option maxHeartbeats 1000000 in
theorem readNumber_any (A : Option Addr) (n cap B : Nat) (l : List UInt8) (w : World) (hl : l.length = n) (hn : n ≤ 8) (hb : Bytes w B A l) :
    Calls Tryz.prog 87 #[.slice A n cap] w fun e w' => e = .returned (.int .u64 (Num.val l : Int)) ∧ w = w' := by
  have Hl := Lib.hid hl; clear hl
  go_enter Tryz.func87, Tryz.ntmps87
  go_wp2
  go_loopw [3, 8] (fun s i wr => ∃ (k : Nat) (y : Int), k ≤ n ∧ i = .int .i64 k ∧ s = .int .u64 y ∧ y = (Num.val (l.take k) : Int) ∧ w = wr) (fun _ i _ => n - (intOf i).toNat)
  case atStart => exact ⟨0, 0, by omega, rfl, rfl, rfl, rfl⟩
  case round =>
    obtain ⟨k, y, hk, rfl, rfl, hy, rfl⟩ := hrel
    have Hy := Lib.hid hy; clear hy
    by_cases hlt : k < n
    · have hk' : k < l.length := by have := Hl.out; omega
      obtain ⟨ad, rfl, hlt', hcell⟩ := hb.get hk'
      have hb256 : l[k].toNat < 256 := Num.byte_lt _
      have Hor := Lib.hid (or_at Hy.out (Num.val_take_lt (by omega)) hb256 (by omega))
      rw [← Num.val_take_succ hk'] at Hor
      generalize l[k].toNat = b at hcell hb256 Hor
      go_wp2
      go_roundw
      case rel => exact ⟨k + 1, _, by omega, by go_num, rfl, Hor.out, trivial⟩
      case measure => simp [intOf]; omega
    · obtain rfl : k = n := by omega
      go_wp2
      go_ret
      refine ⟨?_, rfl⟩
      rw [Hy.out, List.take_of_length_le (by rw [Hl.out]; exact Nat.le_refl _)]
      rfl
/-- what Take answers -/
def TakePost (w : World) (l : List UInt8) (e : Ending) (w' : World) : Prop :=
  e = .returned (.tuple #[.int .u64 ((Num.take l).1 : Int), .int .i64 ((Num.take l).2.1 : Int), .int .i64 ((Num.take l).2.2 : Int)]) ∧ w = w'
set_option maxHeartbeats 1000000 in
theorem take_any (A : Option Addr) (n cap B : Nat) (l : List UInt8) (w : World) (hl : l.length = n) (hcap : n ≤ cap) (hm : n ≤ 281474976710656) (hb : Bytes w B A l) :
    Calls Tryz.prog 57 #[.slice A n cap] w (TakePost w l) := by
  rcases l with _ | ⟨x, r⟩
  · obtain rfl : 0 = n := by simpa using hl
    go_enter Tryz.func57, Tryz.ntmps57
    go_wp2
    go_ret3
    exact ⟨rfl, rfl⟩
  · have hcell := hb.get (k := 0) (by simp)
    obtain ⟨ad, rfl, hlt, hcell⟩ := hcell
    simp only [List.getElem_cons_zero, Addr.add, if_true] at hcell
    have hx256 := Num.byte_lt x
    have hn1 : r.length + 1 = n := by simpa using hl
    unfold TakePost
    rw [Num.take_cons]
    by_cases h1 : x.toNat ≤ 247
    · rw [if_pos h1]
      clear hb hl
      generalize x.toNat = b at *
      go_enter Tryz.func57, Tryz.ntmps57
      go_wp2
      go_ret3
      exact ⟨rfl, rfl⟩
    · rw [if_neg h1]
      obtain ⟨k, hk⟩ : ∃ k, x.toNat = 247 + k := ⟨x.toNat - 247, by omega⟩
      rw [hk, show ((247 + k : Nat) : Int) = 247 + (k : Int) from by omega] at hcell
      rw [hk, show 247 + k - 247 = k from by omega]
      have hk1 : 1 ≤ k := by omega
      have hk8 : k ≤ 8 := by omega
      have hn0 : 0 < n := by omega
      clear h1 hx256 hk
      by_cases h2 : r.length < k
      · rw [if_pos h2]
        have h2' : n < 1 + k := by omega
        clear hb hl h2 hn1
        go_enter Tryz.func57, Tryz.ntmps57
        go_wp2
        go_ret3
        exact ⟨rfl, rfl⟩
      · rw [if_neg h2]
        have hbc := (hb.cut (k := 1) (cap := cap) (by simp) (by omega)).take k
        rw [List.drop_succ_cons, List.drop_zero] at hbc
        have hlen : (r.take k).length = k := by simp; omega
        have hvl := Num.val_lt (r.take k)
        rw [hlen] at hvl
        have hv : Num.val (r.take k) < 18446744073709551616 := Nat.lt_of_lt_of_le hvl (Nat.le_trans (Nat.pow_le_pow_right (by omega) hk8) (by decide))
        have hsl := run_cut_lh (some ad) n cap 1 (1 + k) (by omega) (by omega)
        rw [show 1 + k - 1 = k from by omega, show ((1 + k : Nat) : Int) = 1 + (247 + (k : Int) - 247) from by omega, Int.natCast_one] at hsl
        have H1 := Lib.hid (readNumber_any (cutAt (some ad) cap 1) k (cap - 1) B _ w hlen hk8 hbc)
        generalize cutAt (some ad) cap 1 = A' at hsl H1
        have H2 := Lib.hid (encodedSize_any _ w hv)
        have h9 := Num.size_le9 hv
        have hnk : 1 + k ≤ n := by omega
        clear hb hl hbc hlen hvl hv h2 hn1
        generalize Num.size (Num.val (r.take k)) = s at *
        generalize Num.val (r.take k) = V at *
        obtain ⟨y, hy⟩ : ∃ y : Int, y = (V : Int) := ⟨_, rfl⟩
        rw [← hy] at H1 H2
        by_cases h3 : s = 1 + k
        · rw [if_pos h3, ← hy]
          subst h3
          clear hy
          go_enter Tryz.func57, Tryz.ntmps57
          go_wp2_with fail
          refine H1.out.mono ?_
          rintro e w1 ⟨rfl, rfl⟩
          clear H1
          go_wp2_with fail
          refine H2.out.mono ?_
          rintro e w1 ⟨rfl, rfl⟩
          clear H2 hsl
          go_wp2
          go_ret3
          exact ⟨by go_num, rfl⟩
        · rw [if_neg h3]
          clear hy
          have h3' : ¬ ((s : Int) = 1 + (247 + (k : Int) - 247)) := by omega
          go_enter Tryz.func57, Tryz.ntmps57
          go_wp2_with fail
          refine H1.out.mono ?_
          rintro e w1 ⟨rfl, rfl⟩
          clear H1
          go_wp2_with fail
          refine H2.out.mono ?_
          rintro e w1 ⟨rfl, rfl⟩
          clear H2 hsl
          go_wp2
          go_ret3
          exact ⟨rfl, rfl⟩
end Go.Proofs.YtoebeibmmclhpaaGreat

/- num.TakeInt; the document's Take. -/
namespace Go.Proofs.YtoebeibmmclhpaaGreat
open Go.RowKit
set_option maxRecDepth 100000
/-- what the document's Take answers -/
def RefTakePost (w : World) (l : List UInt8) (e : Ending) (w' : World) : Prop :=
  e = .returned (.tuple #[.int .u64 ((Num.take l).1 : Int), .int .i64 ((Num.take l).2.1 : Int), .int .i64 ((Num.take l).2.2 : Int)]) ∧ Below w.heap.size w w'
theorem Num.val_drop {l : List UInt8} {i : Nat} (hi : i < l.length) : Num.val (l.drop i) = Num.val (l.drop (i + 1)) * 256 + l[i].toNat := by
  rw [List.drop_eq_getElem_cons hi, Num.val]
  omega
set_option maxHeartbeats 1000000 in
theorem refTake_any (A : Option Addr) (n cap B : Nat) (l : List UInt8) (w : World) (hl : l.length = n) (hm : n ≤ 281474976710656) (hb : Bytes w B A l) :
    Calls Tryz.prog 62 #[.slice A n cap] w (RefTakePost w l) := by
  rcases l with _ | ⟨x, r⟩
  · obtain rfl : 0 = n := by simpa using hl
    go_enter Tryz.func62, Tryz.ntmps62
    go_wp2
    go_ret3
    exact ⟨rfl, Below.refl _ _⟩
  · have hcell := hb.get (k := 0) (by simp)
    obtain ⟨ad, rfl, hlt, hcell⟩ := hcell
    simp only [List.getElem_cons_zero, Addr.add, if_true] at hcell
    have hx256 := Num.byte_lt x
    have hn1 : r.length + 1 = n := by simpa using hl
    unfold RefTakePost
    rw [Num.take_cons]
    by_cases h1 : x.toNat ≤ 247
    · rw [if_pos h1]
      clear hb hl
      generalize x.toNat = b at *
      go_enter Tryz.func62, Tryz.ntmps62
      go_wp2
      go_ret3
      exact ⟨rfl, Below.refl _ _⟩
    · rw [if_neg h1]
      obtain ⟨k, hk⟩ : ∃ k, x.toNat = 247 + k := ⟨x.toNat - 247, by omega⟩
      rw [hk, show ((247 + k : Nat) : Int) = 247 + (k : Int) from by omega] at hcell
      rw [hk, show 247 + k - 247 = k from by omega]
      have hk1 : 1 ≤ k := by omega
      have hk8 : k ≤ 8 := by omega
      have hn0 : 0 < n := by omega
      clear h1 hx256 hk
      by_cases h2 : r.length < k
      · rw [if_pos h2]
        have h2' : n < 1 + k := by omega
        clear hb hl h2 hn1
        go_enter Tryz.func62, Tryz.ntmps62
        go_wp2
        go_ret3
        exact ⟨rfl, Below.refl _ _⟩
      · rw [if_neg h2]
        have hlen : (r.take k).length = k := by simp; omega
        have hvl := Num.val_lt (r.take k)
        rw [hlen] at hvl
        have hv : Num.val (r.take k) < 18446744073709551616 := Nat.lt_of_lt_of_le hvl (Nat.le_trans (Nat.pow_le_pow_right (by omega) hk8) (by decide))
        have H2 := Lib.hid (refBytes_any _ w hv)
        have h9 := Num.size_le9 hv
        have hnk : 1 + k ≤ n := by omega
        have hat : ∀ i, i < k → w.cell? (ad.add (i + 1)) = some (.int .u8 ((((r.take k)[i]?.getD 0).toNat : Nat) : Int)) := fun i hi => by
          obtain ⟨ad', e, _, hc⟩ := hb.get (k := i + 1) (by simp; omega)
          cases e
          rw [hc, List.getElem?_eq_getElem (by omega), Option.getD_some, List.getElem_take]
          rfl
        have Hat := Lib.hid hat
        clear hb hl h2 hn1 hvl hat
        generalize r.take k = t at *
        have Hlen := Lib.hid hlen; clear hlen
        clear hv
        generalize hT : (if Num.size (Num.val t) = 1 + k then (Num.val t, 1 + k, 0) else (0, 0, 2)) = T
        have HT := Lib.hid hT; clear hT
        go_enter Tryz.func62, Tryz.ntmps62
        go_wp2
        go_loopw [6, 7] (fun s i wr => ∃ (j : Nat) (y : Int), j ≤ k ∧ i = .int .i64 j ∧ s = .int .u64 y ∧ y = (Num.val (t.drop j) : Int) ∧ w = wr) (fun _ i _ => (intOf i).toNat)
        case atStart => exact ⟨k, 0, Nat.le_refl _, by go_num, rfl, by rw [List.drop_of_length_le (by rw [Hlen.out]; exact Nat.le_refl _)]; rfl, rfl⟩
        case round =>
          obtain ⟨j, y, hj, rfl, rfl, hy, rfl⟩ := hrel
          have Hy := Lib.hid hy; clear hy
          rcases j with _ | i
          · have hyv : ((Num.val t : Nat) : Int) = y := by rw [Hy.out, List.drop_zero]
            rw [hyv] at H2
            have Hyv := Lib.hid hyv; clear hyv
            have hs3 : Num.size (Num.val t) = 1 + k ∨ ¬ Num.size (Num.val t) = 1 + k := Classical.em _
            generalize hsz : Num.size (Num.val t) = s at H2 h9 hs3
            have Hsz := Lib.hid hsz; clear hsz
            generalize Num.num (Num.val t) = N at H2
            clear Hy Hat
            go_wp2_with fail
            refine H2.out.mono ?_
            rintro e w1 ⟨g, c, rfl, ho, hbl⟩
            clear H2
            rcases hs3 with h3 | h3
            · have hT := HT.out
              rw [Hsz.out, if_pos h3] at hT
              subst hT
              have h3' : (s : Int) = 1 + (247 + (k : Int) - 247) := by omega
              clear h3
              go_wp2
              go_ret3
              refine ⟨?_, hbl⟩
              show Ending.returned (.tuple #[.int .u64 y, .int .i64 (1 + (247 + (k : Int) - 247)), .int .i64 0]) = Ending.returned (.tuple #[.int .u64 ((Num.val t : Nat) : Int), .int .i64 ((1 + k : Nat) : Int), .int .i64 0])
              rw [Hyv.out, show (1 + (247 + (k : Int) - 247)) = ((1 + k : Nat) : Int) from by omega]
            · have hT := HT.out
              rw [Hsz.out, if_neg h3] at hT
              subst hT
              have h3' : ¬ ((s : Int) = 1 + (247 + (k : Int) - 247)) := by omega
              clear h3
              go_wp2
              go_ret3
              exact ⟨rfl, hbl⟩
          · have hY := Num.val_drop (l := t) (i := i) (by have := Hlen.out; omega)
            have hlt := Num.val_lt (t.drop (i + 1))
            rw [List.length_drop, Hlen.out] at hlt
            have hle : (256 : Nat) ^ (k - (i + 1)) ≤ 72057594037927936 := Nat.le_trans (Nat.pow_le_pow_right (by omega) (show k - (i + 1) ≤ 7 by omega)) (by decide)
            have hc := Hat.out i (by omega)
            rw [List.getElem?_eq_getElem (by have := Hlen.out; omega), Option.getD_some] at hc
            rw [show ad.add (i + 1) = ⟨ad.block, ad.off + (i + 1), none⟩ from by simp [Addr.add]] at hc
            have hb256 := Num.byte_lt (t[i]'(by have := Hlen.out; omega))
            generalize (t[i]'(by have := Hlen.out; omega)).toNat = b at hc hY hb256
            have hy0 : 0 ≤ y := by rw [Hy.out]; omega
            have hy1 : y ≤ 72057594037927935 := by rw [Hy.out]; omega
            have HY := Lib.hid (show y * 256 + (b : Int) = (Num.val (t.drop i) : Int) by rw [Hy.out]; omega)
            clear hlt hle hY
            go_wp2
            go_roundw
            case rel => exact ⟨i, _, by omega, by go_num, rfl, HY.out, trivial⟩
            case measure => simp [intOf]
end Go.Proofs.YtoebeibmmclhpaaGreat

/- num.PutRow. -/
namespace Go.Proofs.YtoebeibmmclhpaaGreat
open Go.RowKit
set_option maxRecDepth 100000
/-- a row's encoding -/
def Num.row (l : List UInt8) : List UInt8 := Num.num l.length ++ l
theorem Num.row_length (l : List UInt8) : (Num.row l).length = Num.size l.length + l.length := by rw [Num.row, List.length_append, Num.num_length]
set_option maxHeartbeats 400000 in
theorem putRow_wide (A1 A2 : Option Addr) (n1 n2 c1 c2 B1 B2 : Nat) (l1 l2 : List UInt8) (w : World) (hl1 : l1.length = n1) (hl2 : l2.length = n2) (hn : n1 + n2 ≤ 281474976710600)
    (hb1 : Bytes w B1 A1 l1) (hb2 : Bytes w B2 A2 l2) (hB1 : B1 ≤ w.heap.size) (hB2 : B2 ≤ w.heap.size) :
    Calls Tryz.prog 20 #[.slice A1 n1 c1, .slice A2 n2 c2] w (MadeIn w.heap.size w (n1 + (Num.size n2 + n2)) (l1 ++ Num.row l2)) := by
  have hv : n2 < 18446744073709551616 := by omega
  have h9 := Num.size_le9 hv
  have H1 := encodedSize_any n2 w hv
  have H2 := copyWithRoom_any A1 n1 c1 B1 (Num.size n2 + n2) l1 w hl1 (by omega) hb1 hB1
  have H3 := Lib.hid fun g c w' => appendNumber_any g n1 c w.heap.size n2 l1 w' hv
  have hr : Num.row l2 = Num.num n2 ++ l2 := by rw [Num.row, hl2]
  rw [hr]
  clear hr
  generalize Num.size n2 = s at *
  generalize Num.num n2 = N at *
  rw [show ((s + n2 : Nat) : Int) = (s : Int) + (n2 : Int) from by omega] at H2
  replace H1 := Lib.hid H1
  replace H2 := Lib.hid H2
  have Hl2 := Lib.hid hl2
  clear hb1 hl1 hl2 hB1
  go_enter Tryz.func20, Tryz.ntmps20
  go_wp2_with fail
  refine H1.out.mono ?_
  rintro e w1 ⟨rfl, rfl⟩
  go_wp2_with fail
  refine H2.out.mono ?_
  rintro e w1 ⟨g, rfl, ho, hb⟩
  clear H1 H2
  have hs1 := (hb2.wide hB2).below hb
  go_wp2_with fail
  refine (H3.out g (n1 + (s + n2)) w1 ho (by omega)).mono ?_
  rintro e w2 ⟨rfl, ho2, hb2'⟩
  clear H3 ho
  have hs2 := hs1.below hb2'
  have hblk := ho2.block.1
  have hsz := ho2.size
  go_wp2_with (at_builtin; refine wpList_append_fit rfl (.tmp 19) (.tmp 20) rfl w.heap.size g (n1 + s) (n1 + (s + n2)) _ rfl ho2 _ A2 n2 c2 l2 rfl Hl2.out hs2 (by omega) ?_; intro w3 ho3 hg3)
  go_ret
  rw [List.append_assoc, Nat.add_assoc] at ho3
  exact ⟨g, _, congrArg (fun m => Ending.returned (.slice (some ⟨g, 0, none⟩) m (n1 + (s + n2)))) (by omega), ho3, (hb.trans hb2').grown hg3 hsz (fun k hk => by cases hk; exact hblk)⟩
theorem putRow_any (A1 A2 : Option Addr) (n1 n2 c1 c2 B1 B2 : Nat) (l1 l2 : List UInt8) (w : World) (hl1 : l1.length = n1) (hl2 : l2.length = n2) (hn1 : n1 ≤ 140737488351265) (hn2 : n2 ≤ 140737488351265)
    (hb1 : Bytes w B1 A1 l1) (hb2 : Bytes w B2 A2 l2) (hB1 : B1 ≤ w.heap.size) (hB2 : B2 ≤ w.heap.size) :
    Calls Tryz.prog 20 #[.slice A1 n1 c1, .slice A2 n2 c2] w (MadeIn w.heap.size w (n1 + (Num.size n2 + n2)) (l1 ++ Num.row l2)) :=
  putRow_wide A1 A2 n1 n2 c1 c2 B1 B2 l1 l2 w hl1 hl2 (by omega) hb1 hb2 hB1 hB2
end Go.Proofs.YtoebeibmmclhpaaGreat

/- The document's Row. -/
namespace Go.Proofs.YtoebeibmmclhpaaGreat
open Go.RowKit
set_option maxRecDepth 100000
theorem refRow_any (A : Option Addr) (n cap B : Nat) (l : List UInt8) (w : World) (hl : l.length = n) (hn : n ≤ 140737488355300) (hb : Bytes w B A l) (hB : B ≤ w.heap.size) :
    Calls Tryz.prog 29 #[.slice A n cap] w (MadeIn w.heap.size w (Num.size n + n) (Num.row l)) := by
  have hv : n < 18446744073709551616 := by omega
  have h9 := Num.size_le9 hv
  have h1 := Num.size_pos n
  have H1 := Lib.hid (refBytes_any n w hv)
  have hr : Num.row l = Num.num n ++ l := by rw [Num.row, hl]
  rw [hr]
  clear hr
  generalize Num.size n = s at *
  generalize Num.num n = N at *
  have Hl := Lib.hid hl; clear hl
  go_enter Tryz.func29, Tryz.ntmps29
  go_wp2_with fail
  refine H1.out.mono ?_
  rintro e w1 ⟨g, c, rfl, ho, hb1⟩
  clear H1
  have hs1 := (hb.wide hB).below hb1
  have hsz := ho.size
  have hblk := ho.block.1
  go_wp2_with (at_builtin; refine wpList_append_bytes rfl (.tmp 6) (.tmp 7) rfl w.heap.size _ s c _ rfl ho _ A n cap l rfl Hl.out hs1 (by omega) hsz ?_; intro A2 c2 w2 ho2 hg2 hat2)
  go_ret
  obtain ⟨g2, rfl, _⟩ := ho2.at_ (by omega)
  exact ⟨g2, c2, by simp, ho2, hb1.grown hg2 hsz (fun k hk => (ho.lt hk).1)⟩
end Go.Proofs.YtoebeibmmclhpaaGreat

/- bytes.Clone. -/
namespace Go.Proofs.YtoebeibmmclhpaaGreat
open Go.RowKit
set_option maxRecDepth 100000
set_option maxHeartbeats 400000 in
theorem clone_any (ad : Addr) (n cap B : Nat) (l : List UInt8) (w : World) (hl : l.length = n) (hn : n ≤ 140737488355328) (hb : Bytes w B (some ad) l) (hB : B ≤ w.heap.size) :
    Calls Tryz.prog 58 #[.slice (some ad) n cap] w (MadeAt w.heap.size w n l) := by
  have q22 : ∀ (w : World) (a : Option Addr) (n c n' c' : Nat), (binOp .eql 22 (.slice a n c) (.slice none n' c')).run Tryz.prog w = .ok (.bool a.isNone) w := fun w a n c n' c' => Lib.run_eql_slice_nil w _ _ a n c n' c' Tryz.underlying22
  have Hl := Lib.hid hl; clear hl
  have hb1 : Bytes (w.alloc (.cells #[] 5)) B (some ad) l := hb.below ((Below.refl _ _).alloc hB _)
  have ho1 : Own (w.alloc (.cells #[] 5)) w.heap.size (some ⟨w.heap.size, 0, none⟩) 0 0 [] := own_made w w.heap.size #[] 0 (Nat.le_refl _) (by simp only [maxLen]; omega) rfl
  have hbel : Below w.heap.size w (w.alloc (.cells #[] 5)) := (Below.refl _ _).alloc (Nat.le_refl _) _
  clear hb
  go_enter Tryz.func58, Tryz.ntmps58
  go_wp2_with (at_builtin; refine wpList_append_bytes rfl (.tmp 5) (.tmp 6) rfl w.heap.size _ 0 0 [] rfl ho1 B (some ad) n cap l rfl Hl.out hb1 (by omega) (by simp) ?_; intro A1 c1 w1 ho2 hg2 hat2)
  go_ret
  rw [Nat.zero_add] at ho2
  refine ⟨A1, c1, by simp, ho2, hbel.grown hg2 (by simp) ?_⟩
  intro k hk
  simp [blk] at hk
  omega
theorem clone_nil (n cap B : Nat) (l : List UInt8) (w : World) (hl : l.length = n) (hb : Bytes w B none l) :
    Calls Tryz.prog 58 #[.slice none n cap] w (MadeAt w.heap.size w n l) := by
  have q22 : ∀ (w : World) (a : Option Addr) (n c n' c' : Nat), (binOp .eql 22 (.slice a n c) (.slice none n' c')).run Tryz.prog w = .ok (.bool a.isNone) w := fun w a n c n' c' => Lib.run_eql_slice_nil w _ _ a n c n' c' Tryz.underlying22
  have hl0 : l = [] := by
    rcases Classical.em (l = []) with h | h
    · exact h
    · obtain ⟨_, h, _⟩ := hb h; cases h
  subst hl0
  obtain rfl : 0 = n := by simpa using hl
  clear hb hl
  go_enter Tryz.func58, Tryz.ntmps58
  go_wp2
  go_ret
  exact ⟨none, 0, rfl, World.ownsRow_nil w _ _ _, Below.refl _ _⟩
theorem clone_all (A : Option Addr) (n cap B : Nat) (l : List UInt8) (w : World) (hl : l.length = n) (hn : n ≤ 140737488355328) (hb : Bytes w B A l) (hB : B ≤ w.heap.size) :
    Calls Tryz.prog 58 #[.slice A n cap] w (MadeAt w.heap.size w n l) := by
  cases A with
  | none => exact clone_nil n cap B l w hl hb
  | some ad => exact clone_any ad n cap B l w hl hn hb hB
end Go.Proofs.YtoebeibmmclhpaaGreat

/- num.TakeRow and the document's. -/
namespace Go.Proofs.YtoebeibmmclhpaaGreat
open Go.RowKit
set_option maxRecDepth 100000
/-- the row that bytes begin with: it, its size, its error -/
def Num.takeRow (l : List UInt8) (most : Int) : List UInt8 × Nat × Nat :=
  if most < 0 then ([], 0, 1) else if (Num.take l).2.2 = 0 then
    if most < ((Num.take l).1 : Int) then ([], 0, 5) else if l.length < (Num.take l).2.1 + (Num.take l).1 then ([], 0, 3)
    else ((l.drop (Num.take l).2.1).take (Num.take l).1, (Num.take l).2.1 + (Num.take l).1, 0)
  else ([], 0, (Num.take l).2.2)
theorem Num.takeRow_le (l : List UInt8) (most : Int) : (Num.takeRow l most).1.length ≤ l.length := by
  unfold Num.takeRow
  split
  · simp
  · split
    · split
      · simp
      · split
        · simp
        · simp only [List.length_take, List.length_drop]; omega
    · simp
/-- what a call leaves that returns a row in new memory, its size, its error -/
def RowPost (w : World) (R : List UInt8 × Nat × Nat) (e : Ending) (w' : World) : Prop :=
  ∃ A c, e = .returned (.tuple #[.slice A R.1.length c, .int .i64 (R.2.1 : Int), .int .i64 (R.2.2 : Int)]) ∧ Own w' w.heap.size A R.1.length c R.1 ∧ Below w.heap.size w w'
theorem RowPost.none {w w' : World} (e : Nat) (hb : Below w.heap.size w w') : RowPost w ([], 0, e) (.returned (.tuple #[.slice none 0 0, .int .i64 0, .int .i64 (e : Int)])) w' :=
  ⟨.none, 0, rfl, World.ownsRow_nil w' _ _ _, hb⟩
set_option maxHeartbeats 1000000 in
theorem takeRow_wide (A : Option Addr) (n cap B : Nat) (l : List UInt8) (most : Int) (w : World) (hl : l.length = n) (hcap : n ≤ cap) (hm : n ≤ 281474976710656) (hr : (Num.takeRow l most).1.length ≤ 140737488355328) (hb : Bytes w B A l) (hB : B ≤ w.heap.size)
    (h0 : -9223372036854775808 ≤ most) (h1 : most ≤ 9223372036854775807) :
    Calls Tryz.prog 31 #[.slice A n cap, .int .i64 most] w (RowPost w (Num.takeRow l most)) := by
  by_cases hneg : most < 0
  · have hR : Num.takeRow l most = ([], 0, 1) := by unfold Num.takeRow; rw [if_pos hneg]
    rw [hR]
    clear hR hb
    go_enter Tryz.func31, Tryz.ntmps31
    go_wp2
    go_ret3
    exact RowPost.none 1 (Below.refl _ _)
  · have hneg' : 0 ≤ most := by omega
    have H1 := take_any A n cap B l w hl hcap (by omega) hb
    unfold TakePost at H1
    rcases Num.take_cases l with ⟨v, s, ht⟩ | ⟨e, ht, he⟩
    · obtain ⟨_, hs, hsn, hv⟩ := Num.num_take ht
      have hs9 : s ≤ 9 := by rw [hs]; exact Num.size_le9 hv
      have hs1 : 1 ≤ s := by rw [hs]; exact Num.size_pos v
      rw [hl] at hsn
      rw [ht] at H1
      simp only at H1
      obtain ⟨x, hx, hx0, hx1⟩ : ∃ x : Int, x = (v : Int) ∧ 0 ≤ x ∧ x ≤ 18446744073709551615 := ⟨v, rfl, by omega, by omega⟩
      rw [← hx] at H1
      replace H1 := Lib.hid H1
      by_cases hlong : most < x
      · have hR : Num.takeRow l most = ([], 0, 5) := by unfold Num.takeRow; rw [if_neg hneg, ht, if_pos rfl, if_pos (by rw [← hx]; exact hlong)]
        rw [hR]
        clear hR hb hs hv hx ht hl
        go_enter Tryz.func31, Tryz.ntmps31
        go_wp2_with fail
        refine H1.out.mono ?_
        rintro e w1 ⟨rfl, rfl⟩
        clear H1
        go_wp2
        go_ret3
        exact RowPost.none 5 (Below.refl _ _)
      · by_cases hshort : n < s + v
        · have hR : Num.takeRow l most = ([], 0, 3) := by unfold Num.takeRow; rw [if_neg hneg, ht, if_pos rfl, if_neg (by rw [← hx]; exact hlong), if_pos (by rw [hl]; exact hshort)]
          rw [hR]
          have hshort' : (n : Int) - (s : Int) < x := by omega
          clear hR hb hs hv hx ht hl hshort
          go_enter Tryz.func31, Tryz.ntmps31
          go_wp2_with fail
          refine H1.out.mono ?_
          rintro e w1 ⟨rfl, rfl⟩
          clear H1
          go_wp2
          go_ret3
          exact RowPost.none 3 (Below.refl _ _)
        · have hR : Num.takeRow l most = ((l.drop s).take v, s + v, 0) := by unfold Num.takeRow; rw [if_neg hneg, ht, if_pos rfl, if_neg (by rw [← hx]; exact hlong), if_neg (by rw [hl]; exact hshort)]
          rw [hR] at hr
          rw [hR]
          have hbc := (hb.cut (k := s) (cap := cap) (by omega) (by omega)).take v
          have hlen : ((l.drop s).take v).length = v := by simp; omega
          simp only [hlen] at hr
          have hsl := run_cut_lh A n cap s (s + v) (by omega) (by omega)
          rw [show s + v - s = v from by omega, show ((s + v : Nat) : Int) = (s : Int) + x from by omega] at hsl
          have H2 := Lib.hid (clone_all (cutAt A cap s) v (cap - s) B _ w hlen (by omega) hbc hB)
          generalize cutAt A cap s = A' at *
          have Hsz := Lib.hid (show ((s + v : Nat) : Int) = (s : Int) + x from by omega)
          have hxn : (s : Int) + x ≤ n := by omega
          have Hlen := Lib.hid hlen
          clear hR hb hs hv hx ht hl hshort hlen hbc
          generalize (l.drop s).take v = t at *
          go_enter Tryz.func31, Tryz.ntmps31
          go_wp2_with fail
          refine H1.out.mono ?_
          rintro e w1 ⟨rfl, rfl⟩
          clear H1
          go_wp2_with fail
          refine H2.out.mono ?_
          rintro e w1 ⟨A1, c1, rfl, ho, hbl⟩
          clear H2 hsl
          go_wp2
          go_ret3
          refine ⟨A1, c1, ?_, ?_, hbl⟩
          · rw [Hlen.out, Hsz.out]; rfl
          · rw [Hlen.out]; exact ho
    · have hR : Num.takeRow l most = ([], 0, e) := by unfold Num.takeRow; rw [if_neg hneg, ht, if_neg (by simp only; omega)]
      rw [hR]
      rw [ht] at H1
      simp only at H1
      replace H1 := Lib.hid H1
      have he1 : ¬ ((e : Int) = 0) := by omega
      clear hR hb he ht hl
      go_enter Tryz.func31, Tryz.ntmps31
      go_wp2_with fail
      refine H1.out.mono ?_
      rintro e w1 ⟨rfl, rfl⟩
      clear H1
      go_wp2
      go_ret3
      exact RowPost.none _ (Below.refl _ _)
theorem takeRow_any (A : Option Addr) (n cap B : Nat) (l : List UInt8) (most : Int) (w : World) (hl : l.length = n) (hcap : n ≤ cap) (hm : n ≤ 140737488355328) (hb : Bytes w B A l) (hB : B ≤ w.heap.size)
    (h0 : -9223372036854775808 ≤ most) (h1 : most ≤ 9223372036854775807) :
    Calls Tryz.prog 31 #[.slice A n cap, .int .i64 most] w (RowPost w (Num.takeRow l most)) :=
  takeRow_wide A n cap B l most w hl hcap (by omega) (by have := Num.takeRow_le l most; omega) hb hB h0 h1
set_option maxHeartbeats 1000000 in
theorem refTakeRow_any (A : Option Addr) (n cap B : Nat) (l : List UInt8) (most : Int) (w : World) (hl : l.length = n) (hcap : n ≤ cap) (hm : n ≤ 140737488355328) (hb : Bytes w B A l) (hB : B ≤ w.heap.size)
    (h0 : -9223372036854775808 ≤ most) (h1 : most ≤ 9223372036854775807) :
    Calls Tryz.prog 35 #[.slice A n cap, .int .i64 most] w (RowPost w (Num.takeRow l most)) := by
  by_cases hneg : most < 0
  · have hR : Num.takeRow l most = ([], 0, 1) := by unfold Num.takeRow; rw [if_pos hneg]
    rw [hR]
    clear hR hb
    go_enter Tryz.func35, Tryz.ntmps35
    go_wp2
    go_ret3
    exact RowPost.none 1 (Below.refl _ _)
  · have hneg' : 0 ≤ most := by omega
    have H1 := refTake_any A n cap B l w hl (by omega) hb
    unfold RefTakePost at H1
    rcases Num.take_cases l with ⟨v, s, ht⟩ | ⟨e, ht, he⟩
    · obtain ⟨_, hs, hsn, hv⟩ := Num.num_take ht
      have hs9 : s ≤ 9 := by rw [hs]; exact Num.size_le9 hv
      have hs1 : 1 ≤ s := by rw [hs]; exact Num.size_pos v
      rw [hl] at hsn
      rw [ht] at H1
      simp only at H1
      obtain ⟨x, hx, hx0, hx1⟩ : ∃ x : Int, x = (v : Int) ∧ 0 ≤ x ∧ x ≤ 18446744073709551615 := ⟨v, rfl, by omega, by omega⟩
      rw [← hx] at H1
      replace H1 := Lib.hid H1
      by_cases hlong : most < x
      · have hR : Num.takeRow l most = ([], 0, 5) := by unfold Num.takeRow; rw [if_neg hneg, ht, if_pos rfl, if_pos (by rw [← hx]; exact hlong)]
        rw [hR]
        clear hR hb hs hv hx ht hl
        go_enter Tryz.func35, Tryz.ntmps35
        go_wp2_with fail
        refine H1.out.mono ?_
        rintro e w1 ⟨rfl, hb1⟩
        clear H1
        go_wp2
        go_ret3
        exact RowPost.none 5 hb1
      · by_cases hshort : n < s + v
        · have hR : Num.takeRow l most = ([], 0, 3) := by unfold Num.takeRow; rw [if_neg hneg, ht, if_pos rfl, if_neg (by rw [← hx]; exact hlong), if_pos (by rw [hl]; exact hshort)]
          rw [hR]
          have hshort' : (n : Int) - (s : Int) < x := by omega
          clear hR hb hs hv hx ht hl hshort
          go_enter Tryz.func35, Tryz.ntmps35
          go_wp2_with fail
          refine H1.out.mono ?_
          rintro e w1 ⟨rfl, hb1⟩
          clear H1
          go_wp2
          go_ret3
          exact RowPost.none 3 hb1
        · have hR : Num.takeRow l most = ((l.drop s).take v, s + v, 0) := by unfold Num.takeRow; rw [if_neg hneg, ht, if_pos rfl, if_neg (by rw [← hx]; exact hlong), if_neg (by rw [hl]; exact hshort)]
          rw [hR]
          have hbc := (hb.cut (k := s) (cap := cap) (by omega) (by omega)).take v
          have hlen : ((l.drop s).take v).length = v := by simp; omega
          have hsl := run_cut_lh A n cap s (s + v) (by omega) (by omega)
          rw [show s + v - s = v from by omega, show ((s + v : Nat) : Int) = (s : Int) + x from by omega] at hsl
          have H2 := Lib.hid fun (w1 : World) (h : Below w.heap.size w w1) => copy_any (cutAt A cap s) v (cap - s) w.heap.size _ w1 hlen (by omega) ((hbc.wide hB).below h) h.size
          generalize cutAt A cap s = A' at *
          have Hsz := Lib.hid (show ((s + v : Nat) : Int) = (s : Int) + x from by omega)
          have hxn : (s : Int) + x ≤ n := by omega
          have Hlen := Lib.hid hlen
          clear hR hb hs hv hx ht hl hshort hlen hbc
          generalize (l.drop s).take v = t at *
          go_enter Tryz.func35, Tryz.ntmps35
          go_wp2_with fail
          refine H1.out.mono ?_
          rintro e w1 ⟨rfl, hb1⟩
          clear H1
          go_wp2_with fail
          refine (H2.out w1 hb1).mono ?_
          rintro e w2 ⟨A1, c1, rfl, ho, hbl⟩
          clear H2 hsl
          go_wp2
          go_ret3
          refine ⟨A1, c1, ?_, ?_, hb1.trans (hbl.mono hb1.size)⟩
          · rw [Hlen.out, Hsz.out]; rfl
          · rw [Hlen.out]; exact ho.low hb1.size
    · have hR : Num.takeRow l most = ([], 0, e) := by unfold Num.takeRow; rw [if_neg hneg, ht, if_neg (by simp only; omega)]
      rw [hR]
      rw [ht] at H1
      simp only at H1
      replace H1 := Lib.hid H1
      have he1 : ¬ ((e : Int) = 0) := by omega
      clear hR hb he ht hl
      go_enter Tryz.func35, Tryz.ntmps35
      go_wp2_with fail
      refine H1.out.mono ?_
      rintro e w1 ⟨rfl, hb1⟩
      clear H1
      go_wp2
      go_ret3
      exact RowPost.none _ hb1
end Go.Proofs.YtoebeibmmclhpaaGreat

/- A piece of a byte slice from a place on. -/
namespace Go.Proofs.YtoebeibmmclhpaaGreat
open Go.RowKit
/-- a piece from lo on, its length given -/
theorem run_cut_from (A : Option Addr) (n cap lo m : Nat) (h : n = lo + m) (W : World) :
    (Instr.slice 22 (.slice A n cap) (some (.int .i64 (lo : Int))) none none).run Tryz.prog W = .ok (.slice (cutAt A cap lo) m (cap - lo)) W := by
  rw [run_cut_l A n cap lo (by omega), show n - lo = m from by omega]
end Go.Proofs.YtoebeibmmclhpaaGreat

/- An append at a step of a region that draws its order; small literals of bytes. -/
namespace Go.Proofs.YtoebeibmmclhpaaGreat
open Go.RowKit
set_option maxRecDepth 100000
/-- append at a step of a region that draws its order -/
theorem step_append_bytes {w : World} {ops : Array Oper} {o : Oper} {a : Act} {K : Act → World → Prop} {Q : Exit → Act → World → Prop} {E : Prop} (hw : Region.wanted o (yielded ops a.tmps) = true) (s x : Operand)
    (ho : o.op = .call { callee := .builtin .append, args := #[s, x], argTypes := #[22, 22] })
    (base : Nat) (A : Option Addr) (n c : Nat) (l : List UInt8) (hs : a.eval s = .slice A n c) (hown : Own w base A n c l)
    (B : Nat) (A2 : Option Addr) (m c2 : Nat) (l2 : List UInt8) (hx : a.eval x = .slice A2 m c2) (hl2 : l2.length = m) (hb : Bytes w B A2 l2) (hbytes : n + m ≤ 140737488355328) (hbase : base ≤ w.heap.size)
    (h : ∀ A' c' w', Own w' base A' (n + m) c' (l ++ l2) → w.grownBy w' (blk A) → (blk A' = blk A ∨ blk A' = some w.heap.size) → K (a.put o.dst (.slice A' (n + m) c')) w') :
    if Region.wanted o (yielded ops a.tmps) = true then Oper.wp Tryz.prog o a w K Q else E := by
  obtain ⟨A', c', w', hrun, h2, h3, h4⟩ := run_append_bytes w base o.type A n c l hown B A2 m c2 l2 hl2 hb hbytes hbase
  rw [if_pos hw]
  unfold Oper.wp execOp
  simp only [ho, resolve, invoke, builtin, Sem.run_bind, Sem.run_pure, Result.andThen_ok, List.map_toArray, List.map_cons, List.map_nil, hs, hx, hrun]
  exact h A' c' w' h2 h3 h4
theorem own_byte (w : World) (b : UInt8) (x : Int) (h : bval b = .int .u8 x) : Own (w.alloc (.cells #[.int .u8 x] 5)) w.heap.size (some ⟨w.heap.size, 0, none⟩) 1 1 [b] := by
  have h1 := own_lit w w.heap.size [b] (Nat.le_refl _) (by simp [maxLen])
  rw [show (bvals [b]).toArray = #[bval b] from rfl, h] at h1
  exact h1
theorem own_byte2 (w : World) (b d : UInt8) (x y : Int) (h : bval b = .int .u8 x) (h2 : bval d = .int .u8 y) : Own (w.alloc (.cells #[.int .u8 x, .int .u8 y] 5)) w.heap.size (some ⟨w.heap.size, 0, none⟩) 2 2 [b, d] := by
  have h1 := own_lit w w.heap.size [b, d] (Nat.le_refl _) (by simp [maxLen])
  rw [show (bvals [b, d]).toArray = #[bval b, bval d] from rfl, h, h2] at h1
  exact h1
theorem bval_lt {x : Nat} (h : x < 256) : bval (UInt8.ofNat x) = .int .u8 (x : Int) := by unfold bval; rw [Num.toNat_ofNat, Nat.mod_eq_of_lt h]
end Go.Proofs.YtoebeibmmclhpaaGreat

/- slices.Grow of nil, slices.Concat of two byte slices. -/
namespace Go.Proofs.YtoebeibmmclhpaaGreat
open Go.RowKit
set_option maxRecDepth 100000
theorem own_room (w : World) (c n : Nat) (hn : n ≤ c) (hm : c ≤ maxLen) :
    Own (w.drew.alloc (.cells (([] : List Value).toArray ++ Builtin.zeroCells (Value.int .u8 0).cells n ++ Builtin.zeroCells (Value.int .u8 0).cells (c - n)) 5)) w.heap.size (some ⟨w.heap.size, 0, none⟩) 0 c [] := by
  refine own_made w.drew w.heap.size _ c (Nat.le_refl _) hm ?_
  simp [Builtin.zeroCells, Value.cells]
  omega
theorem wpList_append_zeros {w w1 : World} {G n : Nat} {A1 : Option Addr} {ops : Array Oper} {rest : List Oper} {o : Oper} {a : Act} {Q : Exit → Act → World → Prop} (hw : Region.wanted o (yielded ops a.tmps) = true) (s x : Operand)
    (ho : o.op = .call { callee := .builtin .append, args := #[s, x], argTypes := #[22, 3] }) (hs : a.eval s = .slice none 0 0) (hx : a.eval x = .int .i64 (n : Int))
    (hrun : ∀ ty, (Builtin.append_ #[22, 3] ty #[.slice none 0 0, .int .i64 (n : Int)]).run Tryz.prog w = .ok (.slice A1 n G) w1)
    (h : wpList Tryz.prog ops Q rest (a.put o.dst (.slice A1 n G)) w1) : wpList Tryz.prog ops Q (o :: rest) a w := by
  refine wpList_step fun K hK => ?_
  rw [if_pos hw]
  unfold Oper.wp execOp
  simp only [ho, resolve, invoke, builtin, Sem.run_bind, Sem.run_pure, Result.andThen_ok, List.map_toArray, List.map_cons, List.map_nil, hs, hx, hrun]
  exact hK _ _ h
theorem grow_any (n : Nat) (w : World) (h1 : 1 ≤ n) (hn : n ≤ 140737488355328) :
    Calls Tryz.prog 41 #[.slice none 0 0, .int .i64 (n : Int)] w fun e w' => ∃ c, n ≤ c ∧ e = .returned (.slice (some ⟨w.heap.size, 0, none⟩) 0 c) ∧
      Own w' w.heap.size (some ⟨w.heap.size, 0, none⟩) 0 c [] ∧ Below w.heap.size w w' := by
  obtain ⟨i0, hi0, hz0, hz1, hz2⟩ := info_parts byte_info
  have hrz : ∀ ty, (Builtin.append_ #[22, 3] ty #[.slice none 0 0, .int .i64 (n : Int)]).run Tryz.prog w =
      .ok (.slice (some ⟨w.heap.size, 0, none⟩) n (grownCap w n 0 5)) (w.drew.alloc (.cells (([] : List Value).toArray ++ Builtin.zeroCells (Value.int .u8 0).cells n ++ Builtin.zeroCells (Value.int .u8 0).cells (grownCap w n 0 5 - n)) 5)) := fun ty => by
    have h := Lib.run_append_grow_zeros (P := Tryz.prog) w 22 3 ty 5 i0 (.int .u8 0) .i64 .i64 Tryz.underlying22 Tryz.underlying3 hi0 hz0 none 0 0 [] (run_firstCells_none w.drew i0.size 0 0 0) n (by omega) (by omega) (by omega) (by omega)
      (by rw [hz2]; omega) (by rw [hz2]; exact growslice_fits (by omega) (by omega))
    rw [Nat.zero_add] at h
    exact h
  have hge : n ≤ grownCap w n 0 5 := grownCap_ge w _ _ _
  have hle := grownCap_le_maxLen w n 0 5 (by unfold maxLen; omega)
  have hown := own_room w _ n hge hle
  have hbel : Below w.heap.size w (w.drew.alloc (.cells (([] : List Value).toArray ++ Builtin.zeroCells (Value.int .u8 0).cells n ++ Builtin.zeroCells (Value.int .u8 0).cells (grownCap w n 0 5 - n)) 5)) := (Below.refl _ w).drew.alloc (Nat.le_refl _) _
  generalize w.drew.alloc (.cells (([] : List Value).toArray ++ Builtin.zeroCells (Value.int .u8 0).cells n ++ Builtin.zeroCells (Value.int .u8 0).cells (grownCap w n 0 5 - n)) 5) = w1 at *
  generalize grownCap w n 0 5 = G at *
  have hG63 : G ≤ 9223372036854775807 := by unfold maxLen at hle; omega
  have Hown := Lib.hid hown
  have Hbel := Lib.hid hbel
  clear hown hbel hle hi0 hz0 hz1 hz2
  go_enter Tryz.func41, Tryz.ntmps41
  have Hrz := Lib.hid hrz; clear hrz
  go_wp2_with (at_builtin; refine wpList_append_zeros rfl (.tmp 20) (.tmp 21) rfl rfl rfl Hrz.out ?_)
  go_ret
  exact ⟨G, hge, rfl, Hown.out, Hbel.out⟩
set_option maxHeartbeats 2000000 in
theorem concat2_any (g n1 c1 n2 c2 B : Nat) (A1 A2 : Option Addr) (l1 l2 : List UInt8) (w : World) (hl1 : l1.length = n1) (hl2 : l2.length = n2) (h1 : 1 ≤ n2) (hn : n1 + n2 ≤ 140737488355328)
    (hb1 : Bytes w B A1 l1) (hb2 : Bytes w B A2 l2) (hB : B ≤ w.heap.size) (hg : g < w.heap.size) (hc1 : w.cell? ⟨g, 0, none⟩ = some (.slice A1 n1 c1)) (hc2 : w.cell? ⟨g, 1, none⟩ = some (.slice A2 n2 c2)) :
    Calls Tryz.prog 19 #[.slice (some ⟨g, 0, none⟩) 2 2] w (MadeIn w.heap.size w (n1 + n2) (l1 ++ l2)) := by
  have hb1 := hb1.wide hB
  have hb2 := hb2.wide hB
  have H1 := grow_any (n1 + n2) w (by omega) hn
  rw [show ((n1 + n2 : Nat) : Int) = (n1 : Int) + (n2 : Int) from by omega] at H1
  replace H1 := Lib.hid H1
  have Hl1 := Lib.hid hl1
  have Hl2 := Lib.hid hl2
  clear hl1 hl2
  go_enter Tryz.func19, Tryz.ntmps19
  go_wp2_with fail
  refine wp_loop_rounds 3 ?_
  rw [rounds_succ]; go_wp2
  rw [rounds_succ]; go_wp2
  rw [rounds_succ]; go_wp2_with fail
  refine H1.out.mono ?_
  rintro e w1 ⟨c, hc, rfl, ho, hbel⟩
  clear H1
  have hc1' := (hbel.cell (p := ⟨g, 0, none⟩) hg).trans hc1
  have hc2' := (hbel.cell (p := ⟨g, 1, none⟩) hg).trans hc2
  have hb1' := hb1.below hbel
  clear hc1 hb1
  go_wp2_with fail
  refine wp_loop_rounds 3 ?_
  rw [rounds_succ]
  go_wp2_with (at_builtin; refine wpList_append_fit rfl (.tmp 31) (.tmp 32) rfl w.heap.size w.heap.size 0 c [] rfl ho _ A1 n1 c1 l1 rfl Hl1.out hb1' (by omega) ?_; intro w2 ho2 hg2)
  have hbel2 : Below w.heap.size w w2 := hbel.grown hg2 hbel.size (fun k hk => by cases hk; exact Nat.le_refl _)
  have hc2'' := (hbel2.cell (p := ⟨g, 1, none⟩) hg).trans hc2
  have hb2' := hb2.below hbel2
  rw [Nat.zero_add, List.nil_append] at ho2
  clear hc1' hc2' hc2 hb1' hb2 ho hg2 hbel
  rw [rounds_succ]
  go_wp2_with (at_builtin; refine wpList_append_fit rfl (.tmp 31) (.tmp 32) rfl w.heap.size w.heap.size n1 c l1 rfl ho2 _ A2 n2 c2 l2 rfl Hl2.out hb2' (by omega) ?_; intro w3 ho3 hg3)
  have hbel3 : Below w.heap.size w w3 := hbel2.grown hg3 hbel2.size (fun k hk => by cases hk; exact Nat.le_refl _)
  rw [rounds_succ]
  go_wp2
  go_ret
  exact ⟨w.heap.size, c, by simp, ho3, hbel3⟩
end Go.Proofs.YtoebeibmmclhpaaGreat

/- The document's Reader: its cells, Number, Count. -/
namespace Go.Proofs.YtoebeibmmclhpaaGreat
open Go.RowKit
set_option maxRecDepth 100000
/-- The reader at block g, over the slice A, stands at at_; bad or not. -/
structure Rd (w : World) (g : Nat) (A : Option Addr) (n cap at_ : Nat) (bad : Bool) : Prop where
  b : w.cell? ⟨g, 0, none⟩ = some (.slice A n cap)
  at' : w.cell? ⟨g, 1, none⟩ = some (.int .i64 (at_ : Int))
  bad' : w.cell? ⟨g, 2, none⟩ = some (.bool bad)
  f1 : w.frozen? ⟨g, 1, none⟩ = false
  f2 : w.frozen? ⟨g, 2, none⟩ = false
  lt : g < w.heap.size
namespace Rd
variable {w w' : World} {g : Nat} {A : Option Addr} {n cap at_ : Nat} {bad : Bool}
theorem below (h : Rd w g A n cap at_ bad) (hb : Below w.heap.size w w') : Rd w' g A n cap at_ bad :=
  ⟨(hb.cell (p := ⟨g, 0, none⟩) h.lt).trans h.b, (hb.cell (p := ⟨g, 1, none⟩) h.lt).trans h.at', (hb.cell (p := ⟨g, 2, none⟩) h.lt).trans h.bad',
    (hb.frozen (p := ⟨g, 1, none⟩) h.lt).trans h.f1, (hb.frozen (p := ⟨g, 2, none⟩) h.lt).trans h.f2, Nat.lt_of_lt_of_le h.lt hb.size⟩
end Rd
theorem heap_size_setCell (w : World) (a : Addr) (v : Value) : (w.setCell a v).heap.size = w.heap.size := by simp
theorem Rd.setAt {w : World} {g : Nat} {A : Option Addr} {n cap at_ : Nat} {bad : Bool} (h : Rd w g A n cap at_ bad) (k : Nat) : Rd (w.setCell ⟨g, 1, none⟩ (.int .i64 (k : Int))) g A n cap k bad := by
  refine ⟨?_, ?_, ?_, ?_, ?_, by rw [heap_size_setCell]; exact h.lt⟩
  · rw [World.cell?_setCell_other _ _ _ _ (by simp)]; exact h.b
  · exact World.cell?_setCell_same' _ _ _ (by rw [h.at']; rfl)
  · rw [World.cell?_setCell_other _ _ _ _ (by simp)]; exact h.bad'
  · rw [World.frozen?_setCell]; exact h.f1
  · rw [World.frozen?_setCell]; exact h.f2
theorem Rd.setBad {w : World} {g : Nat} {A : Option Addr} {n cap at_ : Nat} {bad : Bool} (h : Rd w g A n cap at_ bad) (k : Bool) : Rd (w.setCell ⟨g, 2, none⟩ (.bool k)) g A n cap at_ k := by
  refine ⟨?_, ?_, ?_, ?_, ?_, by rw [heap_size_setCell]; exact h.lt⟩
  · rw [World.cell?_setCell_other _ _ _ _ (by simp)]; exact h.b
  · rw [World.cell?_setCell_other _ _ _ _ (by simp)]; exact h.at'
  · exact World.cell?_setCell_same' _ _ _ (by rw [h.bad']; rfl)
  · rw [World.frozen?_setCell]; exact h.f1
  · rw [World.frozen?_setCell]; exact h.f2
/-- what a number that is read comes to: it, where one stands then, whether it was bad -/
def Pfor.rd (most : Nat) (b : List UInt8) (at_ : Nat) : Nat × Nat × Bool :=
  if (Num.take (b.drop at_)).2.2 = 0 ∧ (Num.take (b.drop at_)).1 ≤ most then ((Num.take (b.drop at_)).1, at_ + (Num.take (b.drop at_)).2.1, false) else (0, at_ + (Num.take (b.drop at_)).2.1, true)
theorem number_bad (g n cap at_ : Nat) (A : Option Addr) (z : Int) (w : World) (h : Rd w g A n cap at_ true) :
    Calls Tryz.prog 94 #[.pointer (some ⟨g, 0, none⟩), .int .u64 z] w fun e w' => e = .returned (.int .u64 0) ∧ w = w' := by
  have h2 := h.bad'
  clear h
  go_enter Tryz.func94, Tryz.ntmps94
  go_wp2
  go_ret
  exact ⟨rfl, rfl⟩
set_option maxHeartbeats 2000000 in
theorem number_any (g n cap at_ B most : Nat) (A : Option Addr) (b : List UInt8) (w : World) (h : Rd w g A n cap at_ false) (hl : b.length = n) (hcap : n ≤ cap) (hm : n ≤ 140737488355328) (hat : at_ ≤ n) (hb : Bytes w B A b) (hmost : most < 18446744073709551616) :
    Calls Tryz.prog 94 #[.pointer (some ⟨g, 0, none⟩), .int .u64 (most : Int)] w fun e w' => e = .returned (.int .u64 ((Pfor.rd most b at_).1 : Int)) ∧
      Rd w' g A n cap (Pfor.rd most b at_).2.1 (Pfor.rd most b at_).2.2 ∧ w.grownBy w' (some g) := by
  have hcut := hb.cut (k := at_) (cap := cap) (by omega) (by omega)
  have HT := fun (w' : World) (hc : Bytes w' B (cutAt A cap at_) (b.drop at_)) => refTake_any (cutAt A cap at_) (n - at_) (cap - at_) B (b.drop at_) w' (by rw [List.length_drop, hl]) (by omega) hc
  unfold RefTakePost at HT
  have hsl := run_cut_from A n cap at_ (n - at_) (by omega)
  obtain ⟨M, hM, hM0, hM1⟩ : ∃ M : Int, M = (most : Int) ∧ 0 ≤ M ∧ M ≤ 18446744073709551615 := ⟨_, rfl, by omega, by omega⟩
  rw [← hM]
  have hc0 := h.b
  have hc1 := h.at'
  have hc2 := h.bad'
  generalize cutAt A cap at_ = A1 at *
  unfold Pfor.rd
  rcases Num.take_cases (b.drop at_) with ⟨v, s, ht⟩ | ⟨e, ht, he⟩
  · obtain ⟨hq1, hq2, hsl2, hv⟩ := Num.num_take ht
    clear hq1 hq2
    rw [List.length_drop, hl] at hsl2
    simp only [ht, true_and] at HT ⊢
    obtain ⟨V, hV, hV0, hV1⟩ : ∃ V : Int, V = (v : Int) ∧ 0 ≤ V ∧ V ≤ 18446744073709551615 := ⟨_, rfl, by omega, by omega⟩
    rw [← hV] at HT
    replace HT := Lib.hid HT
    by_cases hle : v ≤ most
    · rw [if_pos hle]
      have hVM : decide (M < V) = false := decide_eq_false (by omega)
      have HV := Lib.hid hV
      clear hV hM hle hmost ht hb hl hv
      go_enter Tryz.func94, Tryz.ntmps94
      go_wp2_with fail
      go_region_held3 (fun w' => w'.cell? ⟨g, 0, none⟩ = some (.slice A n cap) ∧ w'.cell? ⟨g, 1, none⟩ = some (.int .i64 (at_ : Int))) (first | exact ⟨hc0, hc1⟩ | exact ⟨(h.below (below_of_drew hbel)).b, (h.below (below_of_drew hbel)).at'⟩) (first | (go_at_call 62; refine (HT.out _ (by exact hcut)).mono ?_; rintro e w1 ⟨rfl, hbel⟩))
      have hbel1 := below_of_drew hbel
      have hr1 := h.below hbel1
      have d1 := hr1.at'
      have d2 := hr1.bad'
      have d3 := hr1.f1
      have d4 := hr1.f2
      have hr2 := (hr1.setAt (at_ + s)).setBad false
      rw [show ((at_ + s : Nat) : Int) = (at_ : Int) + (s : Int) from by omega] at hr2
      have hgr : w.grownBy ((w1.setCell ⟨g, 1, none⟩ (.int .i64 ((at_ : Int) + (s : Int)))).setCell ⟨g, 2, none⟩ (.bool false)) (some g) := Lib.grownBy_setB (Lib.grownBy_setB (Lib.grownBy_below (World.grownBy.refl w (some g)) hbel1) 1 _) 2 _
      have Hr2 := Lib.hid hr2
      have Hgr := Lib.hid hgr
      clear hr2 hgr hr1 hbel HT h hc0 hc1 hc2 hsl hcut
      go_wp2
      go_ret
      exact ⟨by rw [← HV.out]; rfl, Hr2.out, Hgr.out⟩
    · rw [if_neg hle]
      have hVM : M < V := by omega
      clear hV hM hle hmost ht hb hl hv
      go_enter Tryz.func94, Tryz.ntmps94
      go_wp2_with fail
      go_region_held3 (fun w' => w'.cell? ⟨g, 0, none⟩ = some (.slice A n cap) ∧ w'.cell? ⟨g, 1, none⟩ = some (.int .i64 (at_ : Int))) (first | exact ⟨hc0, hc1⟩ | exact ⟨(h.below (below_of_drew hbel)).b, (h.below (below_of_drew hbel)).at'⟩) (first | (go_at_call 62; refine (HT.out _ (by exact hcut)).mono ?_; rintro e w1 ⟨rfl, hbel⟩))
      have hbel1 := below_of_drew hbel
      have hr1 := h.below hbel1
      have d1 := hr1.at'
      have d2 := hr1.bad'
      have d3 := hr1.f1
      have d4 := hr1.f2
      have hr2 := (hr1.setAt (at_ + s)).setBad true
      rw [show ((at_ + s : Nat) : Int) = (at_ : Int) + (s : Int) from by omega] at hr2
      have hgr : w.grownBy ((w1.setCell ⟨g, 1, none⟩ (.int .i64 ((at_ : Int) + (s : Int)))).setCell ⟨g, 2, none⟩ (.bool true)) (some g) := Lib.grownBy_setB (Lib.grownBy_setB (Lib.grownBy_below (World.grownBy.refl w (some g)) hbel1) 1 _) 2 _
      have Hr2 := Lib.hid hr2
      have Hgr := Lib.hid hgr
      clear hr2 hgr hr1 hbel HT h hc0 hc1 hc2 hsl hcut
      go_wp2
      go_ret
      exact ⟨rfl, Hr2.out, Hgr.out⟩
  · simp only [ht] at HT ⊢
    have he' : ¬ ((e : Int) = 0) := by omega
    rw [if_neg (by omega)]
    replace HT := Lib.hid HT
    clear hM hmost ht hb hl he
    go_enter Tryz.func94, Tryz.ntmps94
    go_wp2_with fail
    go_region_held3 (fun w' => w'.cell? ⟨g, 0, none⟩ = some (.slice A n cap) ∧ w'.cell? ⟨g, 1, none⟩ = some (.int .i64 (at_ : Int))) (first | exact ⟨hc0, hc1⟩ | exact ⟨(h.below (below_of_drew hbel)).b, (h.below (below_of_drew hbel)).at'⟩) (first | (go_at_call 62; refine (HT.out _ (by exact hcut)).mono ?_; rintro e w1 ⟨rfl, hbel⟩))
    have hbel1 := below_of_drew hbel
    have hr1 := h.below hbel1
    have d1 := hr1.at'
    have d2 := hr1.bad'
    have d3 := hr1.f1
    have d4 := hr1.f2
    have hr2 := (hr1.setAt (at_ + 0)).setBad true
    rw [show ((at_ + 0 : Nat) : Int) = (at_ : Int) + ((0 : Nat) : Int) from by omega] at hr2
    have hgr : w.grownBy ((w1.setCell ⟨g, 1, none⟩ (.int .i64 ((at_ : Int) + ((0 : Nat) : Int)))).setCell ⟨g, 2, none⟩ (.bool true)) (some g) := Lib.grownBy_setB (Lib.grownBy_setB (Lib.grownBy_below (World.grownBy.refl w (some g)) hbel1) 1 _) 2 _
    have Hr2 := Lib.hid hr2
    have Hgr := Lib.hid hgr
    clear hr2 hgr hr1 hbel HT h hc0 hc1 hc2 hsl hcut
    go_wp2
    go_ret
    exact ⟨rfl, Hr2.out, Hgr.out⟩
theorem count_bad (g n cap at_ : Nat) (A : Option Addr) (most : Nat) (w : World) (hmost : most ≤ 64) (h : Rd w g A n cap at_ true) :
    Calls Tryz.prog 93 #[.pointer (some ⟨g, 0, none⟩), .int .i64 (most : Int)] w fun e w' => e = .returned (.int .i64 0) ∧ w = w' := by
  have H := Lib.hid (number_bad g n cap at_ A (most : Int) w h)
  clear h
  go_enter Tryz.func93, Tryz.ntmps93
  go_wp2_with fail
  refine H.out.mono ?_
  rintro e w1 ⟨rfl, rfl⟩
  clear H
  go_wp2
  go_ret
  exact ⟨rfl, rfl⟩
theorem Pfor.rd_le (most : Nat) (b : List UInt8) (at_ : Nat) : (Pfor.rd most b at_).1 ≤ most := by
  unfold Pfor.rd
  split
  · rename_i h; exact h.2
  · exact Nat.zero_le _
theorem count_any (g n cap at_ B most : Nat) (A : Option Addr) (b : List UInt8) (w : World) (h : Rd w g A n cap at_ false) (hl : b.length = n) (hcap : n ≤ cap) (hm : n ≤ 140737488355328) (hat : at_ ≤ n) (hb : Bytes w B A b) (hmost : most ≤ 64) :
    Calls Tryz.prog 93 #[.pointer (some ⟨g, 0, none⟩), .int .i64 (most : Int)] w fun e w' => e = .returned (.int .i64 ((Pfor.rd most b at_).1 : Int)) ∧
      Rd w' g A n cap (Pfor.rd most b at_).2.1 (Pfor.rd most b at_).2.2 ∧ w.grownBy w' (some g) := by
  have H := Lib.hid (number_any g n cap at_ B most A b w h hl hcap hm hat hb (by omega))
  have hle := Pfor.rd_le most b at_
  generalize Pfor.rd most b at_ = R at *
  clear h hl hb
  go_enter Tryz.func93, Tryz.ntmps93
  go_wp2_with fail
  refine H.out.mono ?_
  rintro e w1 ⟨rfl, hr, hg⟩
  clear H
  go_wp2
  go_ret
  exact ⟨rfl, hr, hg⟩
end Go.Proofs.YtoebeibmmclhpaaGreat
