/- Texts of several layers, one behind the other: Len64 EncSize Put PutRow TakeRow CutFrom Step Concat2. -/
import Derived.Test.YtoebeibmmclhpaaNTA
import Derived.Lib.BitFns
import Derived.WalkSpells
import Derived.WalkLawsBesides
import Derived.Lib.AppendZerosOnto
import Derived.LoopN
/- math/bits.Len64: how many bits a number has. -/
namespace Go.Proofs.Ytoebeibmmclhpaa
open Go.RowKit
set_option maxRecDepth 100000
/-- the end of each way: k bits were shifted out, a byte is left -/
theorem len_end {v : Nat} (k : Nat) (q : Int) (hv : v < 18446744073709551616) (h : 2 ^ k ≤ v) (hq : q = ((v / 2 ^ k : Nat) : Int)) (hz : v / 2 ^ k < 256)
    (hk : k ≤ 56) : wrap64 ((k : Int) + wrap64 (Lib.len8 q)) = (Lib.bitLen v : Int) := by
  rw [Lib.bitLen_shift k v h (by omega)]
  generalize v / 2 ^ k = y at hq hz
  subst hq
  have h8 := Lib.bitLen_le8 ⟨y, hz⟩
  simp only at h8
  rw [Lib.len8_of _ (by omega) (by omega), Int.toNat_natCast]
  unfold wrap64
  omega
theorem len_end0 {v : Nat} (hz : v < 256) : Lib.len8 (v : Int) = (Lib.bitLen v : Int) ∧ Lib.bitLen v ≤ 8 := by
  have h8 := Lib.bitLen_le8 ⟨v, hz⟩
  exact ⟨by rw [Lib.len8_of _ (by omega) (by omega), Int.toNat_natCast], h8⟩
theorem bitLen_le64 {v : Nat} (hv : v < 18446744073709551616) : Lib.bitLen v ≤ 64 := Lib.bitLen_le v 64 (Nat.le_refl _) (by omega)
set_option maxHeartbeats 1000000 in
theorem len64_any (v : Nat) (w : World) (hv : v < 18446744073709551616) :
    Calls Try.prog 34 #[.int .u64 (v : Int)] w fun e w' => e = .returned (.int .i64 (Lib.bitLen v : Int)) ∧ w = w' := by
  obtain ⟨x, hx, h0, h1⟩ : ∃ x : Int, x = (v : Int) ∧ 0 ≤ x ∧ x ≤ 18446744073709551615 := ⟨v, rfl, by omega, by omega⟩
  rw [← hx]
  have Hx := Lib.hid hx; clear hx
  have Hv := Lib.hid hv; clear hv
  go_enter Try.func34, Try.ntmps34
  conv in Value.string _ => change Value.string Lib.len8tab
  have hidx := fun (i : Int) (u : World) => Lib.run_index_len8tab (P := Try.prog) u 9 .u8 i Try.underlying9
  generalize Value.string Lib.len8tab = T at hidx ⊢
  go_wp2
  all_goals rw [hidx _ _ (by omega) (by omega)]
  all_goals go_wp2
  all_goals go_ret
  all_goals refine ⟨congrArg Ending.returned (congrArg (Value.int IntKind.i64) ?_), rfl⟩
  all_goals clear hidx
  all_goals have hx := Hx.out
  all_goals have hv := Hv.out
  all_goals subst hx
  · exact len_end 56 _ hv (by omega) (by omega) (by omega) (by omega)
  · exact len_end 48 _ hv (by omega) (by omega) (by omega) (by omega)
  · exact len_end 40 _ hv (by omega) (by omega) (by omega) (by omega)
  · exact len_end 32 _ hv (by omega) (by omega) (by omega) (by omega)
  · exact len_end 24 _ hv (by omega) (by omega) (by omega) (by omega)
  · exact len_end 16 _ hv (by omega) (by omega) (by omega) (by omega)
  · exact len_end 8 _ hv (by omega) (by omega) (by omega) (by omega)
  · obtain ⟨e1, e2⟩ := len_end0 (v := v) (by omega)
    rw [e1]
    unfold wrap64
    omega
end Go.Proofs.Ytoebeibmmclhpaa

/- num.encodedSize -/
namespace Go.Proofs.Ytoebeibmmclhpaa
open Go.RowKit
set_option maxRecDepth 100000
/-- num.encodedSize -/
theorem encodedSize_any (v : Nat) (w : World) (hv : v < 18446744073709551616) :
    Calls Try.prog 20 #[.int .u64 (v : Int)] w fun e w' => e = .returned (.int .i64 (Num.size v : Int)) ∧ w = w' := by
  have H := Lib.hid (len64_any v w hv)
  have hs : Num.size v = if v ≤ 247 then 1 else 1 + (Lib.bitLen v + 7) / 8 := rfl
  have hle := bitLen_le64 hv
  obtain ⟨x, hx, h0, h1⟩ : ∃ x : Int, x = (v : Int) ∧ 0 ≤ x ∧ x ≤ 18446744073709551615 := ⟨v, rfl, by omega, by omega⟩
  rw [← hx] at H ⊢
  generalize Num.size v = s at hs
  generalize Lib.bitLen v = B at hs hle H
  by_cases hc : v ≤ 247
  · rw [if_pos hc] at hs
    subst hs
    have hc' : x ≤ 247 := by omega
    clear hx hv h1
    go_enter Try.func20, Try.ntmps20
    go_wp2
    go_ret
    exact ⟨rfl, rfl⟩
  · rw [if_neg hc] at hs
    subst hs
    have hc' : 247 < x := by omega
    clear hx hv hc
    go_enter Try.func20, Try.ntmps20
    go_wp2_with fail
    refine H.out.mono ?_
    rintro e w1 ⟨rfl, rfl⟩
    clear H
    go_wp2
    go_ret
    refine ⟨congrArg (fun z => Ending.returned (.int .i64 z)) ?_, rfl⟩
    omega
end Go.Proofs.Ytoebeibmmclhpaa

/- num.copyWithRoom, num.appendNumber, num.Put, num.PutInt, num.PutRow. -/
namespace Go.Proofs.Ytoebeibmmclhpaa
open Go.RowKit
set_option maxRecDepth 100000
theorem copyWithRoom_any (A : Option Addr) (n cap B m : Nat) (l : List UInt8) (w : World) (hl : l.length = n) (hn : n + m ≤ 281474976710656) (hb : Bytes w B A l) (hB : B ≤ w.heap.size) :
    Calls Try.prog 19 #[.slice A n cap, .int .i64 (m : Int)] w fun e w' => ∃ g, e = .returned (.slice (some ⟨g, 0, none⟩) n (n + m)) ∧ Own w' w.heap.size (some ⟨g, 0, none⟩) n (n + m) l ∧ Below w.heap.size w w' := by
  have Hl := Lib.hid hl; clear hl
  have hmk := run_make_bytes (n + m) (by omega)
  rw [show ((n + m : Nat) : Int) = (n : Int) + (m : Int) from by omega] at hmk
  have ho1 : Own (w.alloc (.cells (madeCells #[.int .u8 0] (n + m)) 5)) w.heap.size (some ⟨w.heap.size, 0, none⟩) 0 (n + m) [] :=
    own_made w w.heap.size _ (n + m) (Nat.le_refl _) (by simp only [maxLen]; omega) (size_madeCells _ _)
  have hbel : Below w.heap.size w (w.alloc (.cells (madeCells #[.int .u8 0] (n + m)) 5)) := (Below.refl _ _).alloc (Nat.le_refl _) _
  have hb1 := (hb.wide hB).below hbel
  clear hb
  go_enter Try.func19, Try.ntmps19
  go_wp2_with (at_builtin; refine wpList_append_fit rfl (.tmp 9) (.tmp 10) rfl w.heap.size _ 0 (n + m) [] rfl ho1 _ A n cap l rfl Hl.out hb1 (by omega) ?_; intro w1 ho2 hg2)
  go_ret
  rw [Nat.zero_add] at ho2
  exact ⟨w.heap.size, by simp, ho2, hbel.grown hg2 (by simp) (fun k hk => by cases hk; exact Nat.le_refl _)⟩
theorem byte_at {v k : Nat} {x : Int} (hx : x = (v : Int)) : bval (UInt8.ofNat (v / 256 ^ k)) = .int .u8 (x / 2 ^ (8 * k) % 256) := by
  rw [bval_ofNat, hx, Int.pow_mul, Int.natCast_ediv, Int.natCast_pow]
  rfl
set_option maxHeartbeats 1000000 in
theorem appendNumber_any (g n c base v : Nat) (l : List UInt8) (w : World) (hv : v < 18446744073709551616) (hown : Own w base (some ⟨g, 0, none⟩) n c l) (hroom : n + Num.size v ≤ c) :
    Calls Try.prog 21 #[.slice (some ⟨g, 0, none⟩) n c, .int .u64 (v : Int)] w fun e w' =>
      e = .returned (.slice (some ⟨g, 0, none⟩) (n + Num.size v) c) ∧ Own w' base (some ⟨g, 0, none⟩) (n + Num.size v) c (l ++ Num.num v) ∧ Below base w w' := by
  have hbase := hown.size
  have hblk := hown.block.1
  obtain ⟨x, hx, h0, h1⟩ : ∃ x : Int, x = (v : Int) ∧ 0 ≤ x ∧ x ≤ 18446744073709551615 := ⟨v, rfl, by omega, by omega⟩
  by_cases hs : v ≤ 247
  · have hone := own_one w (UInt8.ofNat v) x (by rw [bval_small (by omega), hx])
    have ho1 := hown.alloc (.cells #[.int .u8 x] 5)
    have hbel : Below base w (w.alloc (.cells #[.int .u8 x] 5)) := (Below.refl _ _).alloc hbase _
    have hsz : Num.size v = 1 := by unfold Num.size; rw [if_pos hs]
    have hnum : Num.num v = [UInt8.ofNat v] := by unfold Num.num; rw [if_pos hs]
    rw [hsz] at hroom ⊢
    rw [hnum, ← hx]
    have hs' : x ≤ 247 := by omega
    have hb1 := hone.bytes
    clear hx hv hs h1 hsz hnum hone
    go_enter Try.func21, Try.ntmps21
    go_wp2_with (at_builtin; refine wpList_append_fit rfl (.tmp 9) (.tmp 12) rfl base g n c l rfl ho1 _ _ 1 1 [UInt8.ofNat v] rfl rfl hb1 hroom ?_; intro w1 ho2 hg2)
    go_ret
    exact ⟨rfl, ho2, hbel.grown hg2 (by simp; omega) (fun k hk => by cases hk; exact hblk)⟩
  · have hK1 := Num.width_pos (v := v) (by omega) hv
    have hK8 := Num.width_le8 hv
    have hsz : Num.size v = 1 + Num.width v := by unfold Num.size; rw [if_neg hs]
    have hnum : Num.num v = UInt8.ofNat (247 + Num.width v) :: Num.le (Num.width v) v := by unfold Num.num; rw [if_neg hs]
    have H := Lib.hid (encodedSize_any v w hv)
    rw [hsz] at hroom H ⊢
    rw [← hx] at H ⊢
    generalize hK : Num.width v = K at *
    have hone := own_one w (UInt8.ofNat (247 + K)) (247 + (1 + (K : Int) - 1)) (by rw [bval_small (by omega)]; exact congrArg _ (by omega))
    have ho1 := hown.alloc (.cells #[.int .u8 (247 + (1 + (K : Int) - 1))] 5)
    have hbel : Below base w (w.alloc (.cells #[.int .u8 (247 + (1 + (K : Int) - 1))] 5)) := (Below.refl _ _).alloc hbase _
    have hb1 := hone.bytes
    have hs' : 247 < x := by omega
    have Hnum := Lib.hid hnum
    have Hx := Lib.hid hx
    have Hv := Lib.hid hv
    clear hx hv hs hsz hnum hone hK
    go_enter Try.func21, Try.ntmps21
    go_wp2_with fail
    refine H.out.mono ?_
    rintro e w0 ⟨rfl, rfl⟩
    clear H
    go_wp2_with (at_builtin; refine wpList_append_fit rfl (.tmp 17) (.tmp 21) rfl base g n c l rfl ho1 _ _ 1 1 [UInt8.ofNat (247 + K)] rfl rfl hb1 (by omega) ?_; intro w1 ho2 hg2)
    have hbel1 := hbel.grown hg2 (by simp; omega) (fun k hk => by cases hk; exact hblk)
    clear hb1 ho1 hown hg2
    go_loopw [0, 24] (fun s i wr => ∃ (k : Nat), k ≤ K ∧ i = .int .i64 k ∧ s = .slice (some ⟨g, 0, none⟩) (n + 1 + k) c ∧ Own wr base (some ⟨g, 0, none⟩) (n + 1 + k) c (l ++ [UInt8.ofNat (247 + K)] ++ Num.le k v) ∧ Below base w wr) (fun _ i _ => K - (intOf i).toNat)
    case atStart => exact ⟨0, by omega, rfl, rfl, by simpa [Num.le] using ho2, hbel1⟩
    case round =>
      obtain ⟨k, hk, rfl, rfl, ho, hb⟩ := hrel
      by_cases hlt : k < K
      · have hone := own_one wr (UInt8.ofNat (v / 256 ^ k)) (x / 2 ^ (8 * k) % 256) (byte_at Hx.out)
        have hb1 := hone.bytes
        have ho1 := ho.alloc (.cells #[.int .u8 (x / 2 ^ (8 * k) % 256)] 5)
        have hbel2 : Below base wr (wr.alloc (.cells #[.int .u8 (x / 2 ^ (8 * k) % 256)] 5)) := (Below.refl _ _).alloc ho.size _
        have hsz := ho.size
        clear hone ho
        go_wp2_with (at_builtin; refine wpList_append_fit rfl (.tmp 27) (.tmp 33) rfl base g (n + 1 + k) c _ rfl ho1 _ _ 1 1 [UInt8.ofNat (v / 256 ^ k)] rfl rfl hb1 (by omega) ?_; intro w2 ho3 hg3)
        have hbw2 := hbel2.grown hg3 (by simp; omega) (fun k hk => by cases hk; exact hblk)
        rw [List.append_assoc, ← Num.le_snoc] at ho3
        go_roundw
        case rel => exact ⟨k + 1, by omega, by go_num, rfl, ho3, hb.trans hbw2⟩
        case measure => simp [intOf]; omega
      · obtain rfl : k = K := by omega
        go_wp2
        go_ret
        rw [List.append_assoc, List.singleton_append, ← Hnum.out, Nat.add_assoc] at ho
        exact ⟨congrArg (fun m => Ending.returned (.slice (some ⟨g, 0, none⟩) m c)) (by omega), ho, hb⟩
/-- what a call leaves that returns a new byte slice: where it lies is known -/
def MadeIn (base : Nat) (w : World) (n : Nat) (l : List UInt8) (e : Ending) (w' : World) : Prop :=
  ∃ g c, e = .returned (.slice (some ⟨g, 0, none⟩) n c) ∧ Own w' base (some ⟨g, 0, none⟩) n c l ∧ Below base w w'
set_option maxHeartbeats 400000 in
theorem put_any (A : Option Addr) (n cap B v : Nat) (l : List UInt8) (w : World) (hl : l.length = n) (hv : v < 18446744073709551616) (hn : n ≤ 140737488355328) (hb : Bytes w B A l) (hB : B ≤ w.heap.size) :
    Calls Try.prog 22 #[.slice A n cap, .int .u64 (v : Int)] w (MadeIn w.heap.size w (n + Num.size v) (l ++ Num.num v)) := by
  have h9 := Num.size_le9 hv
  have H1 := Lib.hid (encodedSize_any v w hv)
  have H2 := Lib.hid (copyWithRoom_any A n cap B (Num.size v) l w hl (by omega) hb hB)
  have H3 := Lib.hid fun g c w' => appendNumber_any g n c w.heap.size v l w' hv
  generalize Num.size v = s at *
  generalize Num.num v = N at *
  obtain ⟨x, hx⟩ : ∃ x : Int, x = (v : Int) := ⟨v, rfl⟩
  rw [← hx] at H1 H3 ⊢
  clear hx hv hb hB
  go_enter Try.func22, Try.ntmps22
  go_wp2_with fail
  refine H1.out.mono ?_
  rintro e w1 ⟨rfl, rfl⟩
  go_wp2_with fail
  refine H2.out.mono ?_
  rintro e w1 ⟨g, rfl, ho, hb⟩
  clear H1 H2
  go_wp2_with fail
  refine (H3.out g (n + s) w1 ho (Nat.le_refl _)).mono ?_
  rintro e w2 ⟨rfl, ho2, hb2⟩
  clear H3
  go_wp2
  go_ret
  exact ⟨g, n + s, rfl, ho2, hb.trans hb2⟩
end Go.Proofs.Ytoebeibmmclhpaa

/- num.PutRow. -/
namespace Go.Proofs.Ytoebeibmmclhpaa
open Go.RowKit
set_option maxRecDepth 100000
/-- a row's encoding -/
def Num.row (l : List UInt8) : List UInt8 := Num.num l.length ++ l
theorem Num.row_length (l : List UInt8) : (Num.row l).length = Num.size l.length + l.length := by rw [Num.row, List.length_append, Num.num_length]
set_option maxHeartbeats 400000 in
theorem putRow_wide (A1 A2 : Option Addr) (n1 n2 c1 c2 B1 B2 : Nat) (l1 l2 : List UInt8) (w : World) (hl1 : l1.length = n1) (hl2 : l2.length = n2) (hn : n1 + n2 ≤ 281474976710600)
    (hb1 : Bytes w B1 A1 l1) (hb2 : Bytes w B2 A2 l2) (hB1 : B1 ≤ w.heap.size) (hB2 : B2 ≤ w.heap.size) :
    Calls Try.prog 11 #[.slice A1 n1 c1, .slice A2 n2 c2] w (MadeIn w.heap.size w (n1 + (Num.size n2 + n2)) (l1 ++ Num.row l2)) := by
  have hv : n2 < 18446744073709551616 := by omega
  have h9 := Num.size_le9 hv
  have H1 := encodedSize_any n2 w hv
  have H2 := copyWithRoom_any A1 n1 c1 B1 (Num.size n2 + n2) l1 w hl1 (by omega) hb1 hB1
  have H3 := Lib.hid fun g c w' => appendNumber_any g n1 c w.heap.size n2 l1 w' hv
  have hr : Num.row l2 = Num.num n2 ++ l2 := by rw [Num.row, hl2]
  rw [hr]
  clear hr
  generalize Num.size n2 = s at *
  generalize Num.num n2 = N at *
  rw [show ((s + n2 : Nat) : Int) = (s : Int) + (n2 : Int) from by omega] at H2
  replace H1 := Lib.hid H1
  replace H2 := Lib.hid H2
  have Hl2 := Lib.hid hl2
  clear hb1 hl1 hl2 hB1
  go_enter Try.func11, Try.ntmps11
  go_wp2_with fail
  refine H1.out.mono ?_
  rintro e w1 ⟨rfl, rfl⟩
  go_wp2_with fail
  refine H2.out.mono ?_
  rintro e w1 ⟨g, rfl, ho, hb⟩
  clear H1 H2
  have hs1 := (hb2.wide hB2).below hb
  go_wp2_with fail
  refine (H3.out g (n1 + (s + n2)) w1 ho (by omega)).mono ?_
  rintro e w2 ⟨rfl, ho2, hb2'⟩
  clear H3 ho
  have hs2 := hs1.below hb2'
  have hblk := ho2.block.1
  have hsz := ho2.size
  go_wp2_with (at_builtin; refine wpList_append_fit rfl (.tmp 19) (.tmp 20) rfl w.heap.size g (n1 + s) (n1 + (s + n2)) _ rfl ho2 _ A2 n2 c2 l2 rfl Hl2.out hs2 (by omega) ?_; intro w3 ho3 hg3)
  go_ret
  rw [List.append_assoc, Nat.add_assoc] at ho3
  exact ⟨g, _, congrArg (fun m => Ending.returned (.slice (some ⟨g, 0, none⟩) m (n1 + (s + n2)))) (by omega), ho3, (hb.trans hb2').grown hg3 hsz (fun k hk => by cases hk; exact hblk)⟩
theorem putRow_any (A1 A2 : Option Addr) (n1 n2 c1 c2 B1 B2 : Nat) (l1 l2 : List UInt8) (w : World) (hl1 : l1.length = n1) (hl2 : l2.length = n2) (hn1 : n1 ≤ 140737488351265) (hn2 : n2 ≤ 140737488351265)
    (hb1 : Bytes w B1 A1 l1) (hb2 : Bytes w B2 A2 l2) (hB1 : B1 ≤ w.heap.size) (hB2 : B2 ≤ w.heap.size) :
    Calls Try.prog 11 #[.slice A1 n1 c1, .slice A2 n2 c2] w (MadeIn w.heap.size w (n1 + (Num.size n2 + n2)) (l1 ++ Num.row l2)) :=
  putRow_wide A1 A2 n1 n2 c1 c2 B1 B2 l1 l2 w hl1 hl2 (by omega) hb1 hb2 hB1 hB2
end Go.Proofs.Ytoebeibmmclhpaa

/- num.TakeRow and the document's. -/
namespace Go.Proofs.Ytoebeibmmclhpaa
open Go.RowKit
set_option maxRecDepth 100000
/-- the row that bytes begin with: it, its size, its error -/
def Num.takeRow (l : List UInt8) (most : Int) : List UInt8 × Nat × Nat :=
  if most < 0 then ([], 0, 1) else if (Num.take l).2.2 = 0 then
    if most < ((Num.take l).1 : Int) then ([], 0, 5) else if l.length < (Num.take l).2.1 + (Num.take l).1 then ([], 0, 3)
    else ((l.drop (Num.take l).2.1).take (Num.take l).1, (Num.take l).2.1 + (Num.take l).1, 0)
  else ([], 0, (Num.take l).2.2)
/-- what a call leaves that returns a row in new memory, its size, its error -/
def RowPost (w : World) (R : List UInt8 × Nat × Nat) (e : Ending) (w' : World) : Prop :=
  ∃ A c, e = .returned (.tuple #[.slice A R.1.length c, .int .i64 (R.2.1 : Int), .int .i64 (R.2.2 : Int)]) ∧ Own w' w.heap.size A R.1.length c R.1 ∧ Below w.heap.size w w'
theorem RowPost.none {w w' : World} (e : Nat) (hb : Below w.heap.size w w') : RowPost w ([], 0, e) (.returned (.tuple #[.slice none 0 0, .int .i64 0, .int .i64 (e : Int)])) w' :=
  ⟨.none, 0, rfl, World.ownsRow_nil w' _ _ _, hb⟩
end Go.Proofs.Ytoebeibmmclhpaa

/- A piece of a byte slice from a place on. -/
namespace Go.Proofs.Ytoebeibmmclhpaa
open Go.RowKit
/-- a piece from lo on, its length given -/
theorem run_cut_from (A : Option Addr) (n cap lo m : Nat) (h : n = lo + m) (W : World) :
    (Instr.slice 22 (.slice A n cap) (some (.int .i64 (lo : Int))) none none).run Try.prog W = .ok (.slice (cutAt A cap lo) m (cap - lo)) W := by
  rw [run_cut_l A n cap lo (by omega), show n - lo = m from by omega]
end Go.Proofs.Ytoebeibmmclhpaa

/- An append at a step of a region that draws its order; small literals of bytes. -/
namespace Go.Proofs.Ytoebeibmmclhpaa
open Go.RowKit
set_option maxRecDepth 100000
/-- append at a step of a region that draws its order -/
theorem step_append_bytes {w : World} {ops : Array Oper} {o : Oper} {a : Act} {K : Act → World → Prop} {Q : Exit → Act → World → Prop} {E : Prop} (hw : Region.wanted o (yielded ops a.tmps) = true) (s x : Operand)
    (ho : o.op = .call { callee := .builtin .append, args := #[s, x], argTypes := #[22, 22] })
    (base : Nat) (A : Option Addr) (n c : Nat) (l : List UInt8) (hs : a.eval s = .slice A n c) (hown : Own w base A n c l)
    (B : Nat) (A2 : Option Addr) (m c2 : Nat) (l2 : List UInt8) (hx : a.eval x = .slice A2 m c2) (hl2 : l2.length = m) (hb : Bytes w B A2 l2) (hbytes : n + m ≤ 140737488355328) (hbase : base ≤ w.heap.size)
    (h : ∀ A' c' w', Own w' base A' (n + m) c' (l ++ l2) → w.grownBy w' (blk A) → (blk A' = blk A ∨ blk A' = some w.heap.size) → K (a.put o.dst (.slice A' (n + m) c')) w') :
    if Region.wanted o (yielded ops a.tmps) = true then Oper.wp Try.prog o a w K Q else E := by
  obtain ⟨A', c', w', hrun, h2, h3, h4⟩ := run_append_bytes w base o.type A n c l hown B A2 m c2 l2 hl2 hb hbytes hbase
  rw [if_pos hw]
  unfold Oper.wp execOp
  simp only [ho, resolve, invoke, builtin, Sem.run_bind, Sem.run_pure, Result.andThen_ok, List.map_toArray, List.map_cons, List.map_nil, hs, hx, hrun]
  exact h A' c' w' h2 h3 h4
theorem own_byte (w : World) (b : UInt8) (x : Int) (h : bval b = .int .u8 x) : Own (w.alloc (.cells #[.int .u8 x] 5)) w.heap.size (some ⟨w.heap.size, 0, none⟩) 1 1 [b] := by
  have h1 := own_lit w w.heap.size [b] (Nat.le_refl _) (by simp [maxLen])
  rw [show (bvals [b]).toArray = #[bval b] from rfl, h] at h1
  exact h1
theorem own_byte2 (w : World) (b d : UInt8) (x y : Int) (h : bval b = .int .u8 x) (h2 : bval d = .int .u8 y) : Own (w.alloc (.cells #[.int .u8 x, .int .u8 y] 5)) w.heap.size (some ⟨w.heap.size, 0, none⟩) 2 2 [b, d] := by
  have h1 := own_lit w w.heap.size [b, d] (Nat.le_refl _) (by simp [maxLen])
  rw [show (bvals [b, d]).toArray = #[bval b, bval d] from rfl, h, h2] at h1
  exact h1
theorem bval_lt {x : Nat} (h : x < 256) : bval (UInt8.ofNat x) = .int .u8 (x : Int) := by unfold bval; rw [Num.toNat_ofNat, Nat.mod_eq_of_lt h]
end Go.Proofs.Ytoebeibmmclhpaa

/- slices.Grow of nil, slices.Concat of two byte slices. -/
namespace Go.Proofs.Ytoebeibmmclhpaa
open Go.RowKit
set_option maxRecDepth 100000
theorem own_room (w : World) (c n : Nat) (hn : n ≤ c) (hm : c ≤ maxLen) :
    Own (w.drew.alloc (.cells (([] : List Value).toArray ++ Builtin.zeroCells (Value.int .u8 0).cells n ++ Builtin.zeroCells (Value.int .u8 0).cells (c - n)) 5)) w.heap.size (some ⟨w.heap.size, 0, none⟩) 0 c [] := by
  refine own_made w.drew w.heap.size _ c (Nat.le_refl _) hm ?_
  simp [Builtin.zeroCells, Value.cells]
  omega
theorem wpList_append_zeros {w w1 : World} {G n : Nat} {A1 : Option Addr} {ops : Array Oper} {rest : List Oper} {o : Oper} {a : Act} {Q : Exit → Act → World → Prop} (hw : Region.wanted o (yielded ops a.tmps) = true) (s x : Operand)
    (ho : o.op = .call { callee := .builtin .append, args := #[s, x], argTypes := #[22, 3] }) (hs : a.eval s = .slice none 0 0) (hx : a.eval x = .int .i64 (n : Int))
    (hrun : ∀ ty, (Builtin.append_ #[22, 3] ty #[.slice none 0 0, .int .i64 (n : Int)]).run Try.prog w = .ok (.slice A1 n G) w1)
    (h : wpList Try.prog ops Q rest (a.put o.dst (.slice A1 n G)) w1) : wpList Try.prog ops Q (o :: rest) a w := by
  refine wpList_step fun K hK => ?_
  rw [if_pos hw]
  unfold Oper.wp execOp
  simp only [ho, resolve, invoke, builtin, Sem.run_bind, Sem.run_pure, Result.andThen_ok, List.map_toArray, List.map_cons, List.map_nil, hs, hx, hrun]
  exact hK _ _ h
theorem grow_any (n : Nat) (w : World) (h1 : 1 ≤ n) (hn : n ≤ 140737488355328) :
    Calls Try.prog 18 #[.slice none 0 0, .int .i64 (n : Int)] w fun e w' => ∃ c, n ≤ c ∧ e = .returned (.slice (some ⟨w.heap.size, 0, none⟩) 0 c) ∧
      Own w' w.heap.size (some ⟨w.heap.size, 0, none⟩) 0 c [] ∧ Below w.heap.size w w' := by
  obtain ⟨i0, hi0, hz0, hz1, hz2⟩ := info_parts byte_info
  have hrz : ∀ ty, (Builtin.append_ #[22, 3] ty #[.slice none 0 0, .int .i64 (n : Int)]).run Try.prog w =
      .ok (.slice (some ⟨w.heap.size, 0, none⟩) n (grownCap w n 0 5)) (w.drew.alloc (.cells (([] : List Value).toArray ++ Builtin.zeroCells (Value.int .u8 0).cells n ++ Builtin.zeroCells (Value.int .u8 0).cells (grownCap w n 0 5 - n)) 5)) := fun ty => by
    have h := Lib.run_append_grow_zeros (P := Try.prog) w 22 3 ty 5 i0 (.int .u8 0) .i64 .i64 Try.underlying22 Try.underlying3 hi0 hz0 none 0 0 [] (run_firstCells_none w.drew i0.size 0 0 0) n (by omega) (by omega) (by omega) (by omega)
      (by rw [hz2]; omega) (by rw [hz2]; exact growslice_fits (by omega) (by omega))
    rw [Nat.zero_add] at h
    exact h
  have hge : n ≤ grownCap w n 0 5 := grownCap_ge w _ _ _
  have hle := grownCap_le_maxLen w n 0 5 (by unfold maxLen; omega)
  have hown := own_room w _ n hge hle
  have hbel : Below w.heap.size w (w.drew.alloc (.cells (([] : List Value).toArray ++ Builtin.zeroCells (Value.int .u8 0).cells n ++ Builtin.zeroCells (Value.int .u8 0).cells (grownCap w n 0 5 - n)) 5)) := (Below.refl _ w).drew.alloc (Nat.le_refl _) _
  generalize w.drew.alloc (.cells (([] : List Value).toArray ++ Builtin.zeroCells (Value.int .u8 0).cells n ++ Builtin.zeroCells (Value.int .u8 0).cells (grownCap w n 0 5 - n)) 5) = w1 at *
  generalize grownCap w n 0 5 = G at *
  have hG63 : G ≤ 9223372036854775807 := by unfold maxLen at hle; omega
  have Hown := Lib.hid hown
  have Hbel := Lib.hid hbel
  clear hown hbel hle hi0 hz0 hz1 hz2
  go_enter Try.func18, Try.ntmps18
  have Hrz := Lib.hid hrz; clear hrz
  go_wp2_with (at_builtin; refine wpList_append_zeros rfl (.tmp 20) (.tmp 21) rfl rfl rfl Hrz.out ?_)
  go_ret
  exact ⟨G, hge, rfl, Hown.out, Hbel.out⟩
set_option maxHeartbeats 2000000 in
theorem concat2_any (g n1 c1 n2 c2 B : Nat) (A1 A2 : Option Addr) (l1 l2 : List UInt8) (w : World) (hl1 : l1.length = n1) (hl2 : l2.length = n2) (h1 : 1 ≤ n2) (hn : n1 + n2 ≤ 140737488355328)
    (hb1 : Bytes w B A1 l1) (hb2 : Bytes w B A2 l2) (hB : B ≤ w.heap.size) (hg : g < w.heap.size) (hc1 : w.cell? ⟨g, 0, none⟩ = some (.slice A1 n1 c1)) (hc2 : w.cell? ⟨g, 1, none⟩ = some (.slice A2 n2 c2)) :
    Calls Try.prog 10 #[.slice (some ⟨g, 0, none⟩) 2 2] w (MadeIn w.heap.size w (n1 + n2) (l1 ++ l2)) := by
  have hb1 := hb1.wide hB
  have hb2 := hb2.wide hB
  have H1 := grow_any (n1 + n2) w (by omega) hn
  rw [show ((n1 + n2 : Nat) : Int) = (n1 : Int) + (n2 : Int) from by omega] at H1
  replace H1 := Lib.hid H1
  have Hl1 := Lib.hid hl1
  have Hl2 := Lib.hid hl2
  clear hl1 hl2
  go_enter Try.func10, Try.ntmps10
  go_wp2_with fail
  refine wp_loop_rounds 3 ?_
  rw [rounds_succ]; go_wp2
  rw [rounds_succ]; go_wp2
  rw [rounds_succ]; go_wp2_with fail
  refine H1.out.mono ?_
  rintro e w1 ⟨c, hc, rfl, ho, hbel⟩
  clear H1
  have hc1' := (hbel.cell (p := ⟨g, 0, none⟩) hg).trans hc1
  have hc2' := (hbel.cell (p := ⟨g, 1, none⟩) hg).trans hc2
  have hb1' := hb1.below hbel
  clear hc1 hb1
  go_wp2_with fail
  refine wp_loop_rounds 3 ?_
  rw [rounds_succ]
  go_wp2_with (at_builtin; refine wpList_append_fit rfl (.tmp 31) (.tmp 32) rfl w.heap.size w.heap.size 0 c [] rfl ho _ A1 n1 c1 l1 rfl Hl1.out hb1' (by omega) ?_; intro w2 ho2 hg2)
  have hbel2 : Below w.heap.size w w2 := hbel.grown hg2 hbel.size (fun k hk => by cases hk; exact Nat.le_refl _)
  have hc2'' := (hbel2.cell (p := ⟨g, 1, none⟩) hg).trans hc2
  have hb2' := hb2.below hbel2
  rw [Nat.zero_add, List.nil_append] at ho2
  clear hc1' hc2' hc2 hb1' hb2 ho hg2 hbel
  rw [rounds_succ]
  go_wp2_with (at_builtin; refine wpList_append_fit rfl (.tmp 31) (.tmp 32) rfl w.heap.size w.heap.size n1 c l1 rfl ho2 _ A2 n2 c2 l2 rfl Hl2.out hb2' (by omega) ?_; intro w3 ho3 hg3)
  have hbel3 : Below w.heap.size w w3 := hbel2.grown hg3 hbel2.size (fun k hk => by cases hk; exact Nat.le_refl _)
  rw [rounds_succ]
  go_wp2
  go_ret
  exact ⟨w.heap.size, c, by simp, ho3, hbel3⟩
end Go.Proofs.Ytoebeibmmclhpaa
