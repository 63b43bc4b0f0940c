/- lz.appendExtension, lz.appendLiterals, lz.appendPart, lz.appendEarlier: they append to a slice of one's own. -/
import Derived.Test.YtonknkmbkfndcaaLzFns
import Derived.Test.YtonknkmbkfndcaaCopy
import Derived.Test.YtonknkmbkfndcaaFits
namespace Go.Proofs.Ytonknkmbkfndcaa
open Go.RowKit

theorem MadeAt.mono_eq {base : Nat} {w : World} {n n' : Nat} {l l' : List UInt8} (hn : n = n') (hl : l = l') {e : Ending} {w' : World} (h : MadeAt base w n l e w') : MadeAt base w n' l' e w' := by subst hn hl; exact h

set_option maxHeartbeats 1000000 in
theorem appendExtension_any (A : Option Addr) (n c base k : Nat) (l : List UInt8) (w : World) (hown : Own w base A n c l) (hbase : base ≤ w.heap.size) (hk : k ≤ 1000000000000000) (hn : n + k / 255 + 1 ≤ 140737488355328) :
    Calls Try.prog 27 #[.slice A n c, .int .i64 (k : Int)] w (MadeAt base w (n + (Lz.exts k).length) (l ++ Lz.exts k)) := by
  by_cases h15 : k < 15
  · rw [Lz.exts_small h15, List.append_nil]
    have h15' : (k : Int) < 15 := by omega
    go_enter Try.func27, Try.ntmps27
    go_wp2
    go_ret
    exact ⟨A, c, rfl, hown, Below.refl _ _⟩
  · rw [Lz.exts_great h15]
    obtain ⟨j0, rfl⟩ : ∃ j, k = j + 15 := ⟨k - 15, by omega⟩
    rw [show j0 + 15 - 15 = j0 from by omega]
    have hlen := Lz.ext_length j0
    generalize hX : l ++ Lz.ext j0 = X
    generalize hN : n + (Lz.ext j0).length = N
    have HX := Lib.hid hX
    have hNb : N ≤ 140737488355328 := by rw [← hN, hlen]; omega
    have HN := Lib.hid hN
    clear hX hN hlen
    rw [show ((j0 + 15 : Nat) : Int) = (j0 : Int) + 15 from by omega]
    have h15' : ¬ ((j0 : Int) + 15 < 15) := by omega
    clear h15 hn
    go_enter Try.func27, Try.ntmps27
    go_wp2
    go_loopw [0, 5] (fun s r wr => ∃ (j m : Nat) (A' : Option Addr) (c' : Nat) (M : List UInt8), j ≤ j0 ∧ r = .int .i64 j ∧ s = .slice A' m c' ∧ Own wr base A' m c' M ∧ M ++ Lz.ext j = X ∧ m + (Lz.ext j).length = N ∧ base ≤ wr.heap.size ∧ Below base w wr) (fun _ r _ => (intOf r).toNat)
    case atStart => exact ⟨j0, n, A, c, l, Nat.le_refl _, by go_num, rfl, hown, HX.out, HN.out, hbase, Below.refl _ _⟩
    case round =>
      clear HX HN hown
      obtain ⟨j, m, A', c', M, hj, rfl, rfl, ho, hX, hN, hsz, hbel⟩ := hrel
      have HX := Lib.hid hX; clear hX
      have HN := Lib.hid hN; clear hN
      have hlen := Lz.ext_length j
      by_cases h255 : j < 255
      · have hx := HX.out
        have hy := HN.out
        rw [Lz.ext_small h255] at hx hy
        have hone := own_one wr (UInt8.ofNat j) (j : Int) (by rw [bval_small (by omega)])
        have hb1 := hone.bytes
        have ho1 := ho.alloc (.cells #[.int .u8 (j : Int)] 5)
        have hbel2 : Below base w (wr.alloc (.cells #[.int .u8 (j : Int)] 5)) := hbel.alloc hsz _
        have hsz2 : base ≤ (wr.alloc (.cells #[.int .u8 (j : Int)] 5)).heap.size := by simp; omega
        have h255' : ¬ ((255 : Int) ≤ (j : Int)) := by omega
        have Hx := Lib.hid hx
        have Hy := Lib.hid hy
        have hm : m + 1 ≤ 140737488355328 := by simp at hy; omega
        clear hone ho hx hy HX HN hlen
        go_wp2_with (at_builtin; refine wpList_append_bytes rfl (.tmp 18) (.tmp 21) rfl base A' m c' M rfl ho1 _ _ 1 1 [UInt8.ofNat j] rfl rfl hb1 (by omega) hsz2 ?_; intro A2 c2 w2 ho3 hg3 hat3)
        go_ret
        rw [Hx.out] at ho3
        have hy := Hy.out
        rw [List.length_singleton] at hy
        rw [hy] at ho3
        exact ⟨A2, c2, by rw [← hy]; go_num, ho3, hbel2.grown hg3 hsz2 (fun k hk => (ho1.lt hk).1)⟩
      · have hx := HX.out
        have hy := HN.out
        rw [Lz.ext_great h255] at hx hy
        have hone := own_one wr 255 255 rfl
        have hb1 := hone.bytes
        have ho1 := ho.alloc (.cells #[.int .u8 255] 5)
        have hbel2 : Below base w (wr.alloc (.cells #[.int .u8 255] 5)) := hbel.alloc hsz _
        have hsz2 : base ≤ (wr.alloc (.cells #[.int .u8 255] 5)).heap.size := by simp; omega
        have h255' : (255 : Int) ≤ (j : Int) := by omega
        have hm : m + 1 ≤ 140737488355328 := by simp at hy; omega
        have Hx := Lib.hid hx
        have Hy := Lib.hid hy
        clear hone ho hx hy HX HN hlen
        go_wp2_with (at_builtin; refine wpList_append_bytes rfl (.tmp 15) (.tmp 16) rfl base A' m c' M rfl ho1 _ _ 1 1 [255] rfl rfl hb1 (by omega) hsz2 ?_; intro A2 c2 w2 ho3 hg3 hat3)
        go_roundw
        case rel =>
          refine ⟨j - 255, m + 1, A2, c2, M ++ [255], by omega, ?_, by go_num, ho3, ?_, ?_, Nat.le_trans hsz2 hg3.size, hbel2.grown hg3 hsz2 (fun k hk => (ho1.lt hk).1)⟩
          · exact congrArg (Value.int .i64) (by omega)
          · rw [List.append_assoc, List.singleton_append]; exact Hx.out
          · have := Hy.out; rw [List.length_cons] at this; omega
        case measure => simp [intOf]; omega

theorem head_or {a m : Nat} (ha : a ≤ 15) (hm : m ≤ 15) : bits .or .i64 ((a : Int) * 16) (m : Int) = ((16 * a + m : Nat) : Int) := by
  rw [show (a : Int) * 16 = ((a * 2 ^ 4 : Nat) : Int) from by omega, i64_or_nat _ _ (by omega) (by omega), Nat.or_comm, lz_or_add 4 a m (by omega)]
  omega

set_option maxHeartbeats 1000000 in
theorem appendLiterals_any (A : Option Addr) (n c base : Nat) (l : List UInt8) (A2 : Option Addr) (n2 c2 B m : Nat) (t : List UInt8) (w : World) (hown : Own w base A n c l) (hbase : base ≤ w.heap.size)
    (ht : t.length = n2) (hb : Bytes w B A2 t) (hB : B ≤ base) (hm : m ≤ 15) (hn2 : n2 ≤ 1000000000000) (hn : n ≤ 100000000000000) :
    Calls Try.prog 19 #[.slice A n c, .slice A2 n2 c2, .int .i64 (m : Int)] w (MadeAt base w (n + (Lz.lits t m).length) (l ++ Lz.lits t m)) := by
  have hll := Lz.lits_length t m
  have hle := Lz.exts_length_le n2
  have hlit : Lz.lits t m = [Lz.head n2 m] ++ Lz.exts n2 ++ t := by unfold Lz.lits; rw [ht]
  have hhead : Lz.head n2 m = UInt8.ofNat (16 * min n2 15 + m) := rfl
  rw [ht] at hll
  rw [hll, hlit, hhead]
  have ha : min n2 15 ≤ 15 := by omega
  have H1 := fun A' c' w' ho hb => appendExtension_any A' (n + 1) c' base n2 (l ++ [UInt8.ofNat (16 * min n2 15 + m)]) w' ho hb (by omega) (by omega)
  have hone := own_one w (UInt8.ofNat (16 * min n2 15 + m)) ((16 * min n2 15 + m : Nat) : Int) (by rw [bval_small (by omega)])
  have hlt : 16 * min n2 15 + m < 256 := by omega
  have hor := head_or ha hm
  by_cases h15 : n2 ≤ 15
  · have h15' : (n2 : Int) ≤ 15 := by omega
    rw [show ((min n2 15 : Nat) : Int) = (n2 : Int) from by omega] at hor
    generalize 16 * min n2 15 + m = h at *
    clear ha
    replace H1 := Lib.hid H1
    generalize hE : Lz.exts n2 = E at *
    have Ht := Lib.hid ht
    clear hE ht hlit hhead hll
    have hb1 := hone.bytes
    have ho1 := hown.alloc (.cells #[.int .u8 (h : Int)] 5)
    have hbel : Below base w (w.alloc (.cells #[.int .u8 (h : Int)] 5)) := (Below.refl _ _).alloc hbase _
    have hsz2 : base ≤ (w.alloc (.cells #[.int .u8 (h : Int)] 5)).heap.size := by simp; omega
    have hb := hb.wide hB
    clear hone hown
    go_enter Try.func19, Try.ntmps19
    go_wp2_with (at_builtin; refine wpList_append_bytes rfl (.tmp 11) (.tmp 17) rfl base A n c l rfl ho1 _ _ 1 1 [UInt8.ofNat h] rfl rfl hb1 (by omega) hsz2 ?_; intro A3 c3 w3 ho3 hg3 hat3)
    have hbel3 := hbel.grown hg3 hsz2 (fun k hk => (ho1.lt hk).1)
    have hsz3 := Nat.le_trans hsz2 hg3.size
    clear ho1 hb1 hg3 hat3
    refine (H1.out A3 c3 w3 ho3 hsz3).mono ?_
    rintro e w4 ⟨A4, c4, rfl, ho4, hb4⟩
    have hbel4 := hbel3.trans hb4
    have hb5 := hb.below hbel4
    have hsz4 : base ≤ w4.heap.size := Nat.le_trans hbase hbel4.size
    clear hb H1
    go_wp2_with (at_builtin; refine wpList_append_bytes rfl (.tmp 23) (.tmp 24) rfl base A4 (n + 1 + E.length) c4 _ rfl ho4 _ A2 n2 c2 t rfl Ht.out hb5 (by omega) hsz4 ?_; intro A6 c6 w6 ho6 hg6 hat6)
    go_ret
    refine ⟨A6, c6, ?_, ?_, hbel4.grown hg6 hsz4 (fun k hk => (ho4.lt hk).1)⟩
    · exact congrArg (fun x => Ending.returned (.slice A6 x c6)) (by omega)
    · rw [show n + (1 + E.length + n2) = n + 1 + E.length + n2 from by omega]
      simpa [List.append_assoc] using ho6
  · have h15' : ¬ ((n2 : Int) ≤ 15) := by omega
    rw [show ((min n2 15 : Nat) : Int) * 16 = 240 from by omega] at hor
    generalize 16 * min n2 15 + m = h at *
    clear ha
    replace H1 := Lib.hid H1
    generalize hE : Lz.exts n2 = E at *
    have Ht := Lib.hid ht
    clear hE ht hlit hhead hll
    have hb1 := hone.bytes
    have ho1 := hown.alloc (.cells #[.int .u8 (h : Int)] 5)
    have hbel : Below base w (w.alloc (.cells #[.int .u8 (h : Int)] 5)) := (Below.refl _ _).alloc hbase _
    have hsz2 : base ≤ (w.alloc (.cells #[.int .u8 (h : Int)] 5)).heap.size := by simp; omega
    have hb := hb.wide hB
    clear hone hown
    go_enter Try.func19, Try.ntmps19
    go_wp2_with (at_builtin; refine wpList_append_bytes rfl (.tmp 11) (.tmp 17) rfl base A n c l rfl ho1 _ _ 1 1 [UInt8.ofNat h] rfl rfl hb1 (by omega) hsz2 ?_; intro A3 c3 w3 ho3 hg3 hat3)
    have hbel3 := hbel.grown hg3 hsz2 (fun k hk => (ho1.lt hk).1)
    have hsz3 := Nat.le_trans hsz2 hg3.size
    clear ho1 hb1 hg3 hat3
    refine (H1.out A3 c3 w3 ho3 hsz3).mono ?_
    rintro e w4 ⟨A4, c4, rfl, ho4, hb4⟩
    have hbel4 := hbel3.trans hb4
    have hb5 := hb.below hbel4
    have hsz4 : base ≤ w4.heap.size := Nat.le_trans hbase hbel4.size
    clear hb H1
    go_wp2_with (at_builtin; refine wpList_append_bytes rfl (.tmp 23) (.tmp 24) rfl base A4 (n + 1 + E.length) c4 _ rfl ho4 _ A2 n2 c2 t rfl Ht.out hb5 (by omega) hsz4 ?_; intro A6 c6 w6 ho6 hg6 hat6)
    go_ret
    refine ⟨A6, c6, ?_, ?_, hbel4.grown hg6 hsz4 (fun k hk => (ho4.lt hk).1)⟩
    · exact congrArg (fun x => Ending.returned (.slice A6 x c6)) (by omega)
    · rw [show n + (1 + E.length + n2) = n + 1 + E.length + n2 from by omega]
      simpa [List.append_assoc] using ho6

theorem own_two (w : World) (b d : UInt8) (x y : Int) (h : bval b = .int .u8 x) (h2 : bval d = .int .u8 y) : Own (w.alloc (.cells #[.int .u8 x, .int .u8 y] 5)) w.heap.size (some ⟨w.heap.size, 0, none⟩) 2 2 [b, d] := by
  have h1 := own_lit w w.heap.size [b, d] (Nat.le_refl _) (by simp [maxLen])
  rw [show (bvals [b, d]).toArray = #[bval b, bval d] from rfl, h, h2] at h1
  exact h1

set_option maxHeartbeats 1000000 in
theorem appendPart_any (A : Option Addr) (n c base : Nat) (l : List UInt8) (A2 : Option Addr) (n2 c2 B d k : Nat) (t : List UInt8) (w : World) (hown : Own w base A n c l) (hbase : base ≤ w.heap.size)
    (ht : t.length = n2) (hb : Bytes w B A2 t) (hB : B ≤ base) (hd : d ≤ 65535) (hk : 4 ≤ k) (hk2 : k ≤ 1000000000000) (hn2 : n2 ≤ 1000000000000) (hn : n ≤ 10000000000000) :
    Calls Try.prog 18 #[.slice A n c, .slice A2 n2 c2, .int .i64 (d : Int), .int .i64 (k : Int)] w (MadeAt base w (n + (Lz.part t d k).length) (l ++ Lz.part t d k)) := by
  obtain ⟨q, rfl⟩ : ∃ q, k = q + 4 := ⟨k - 4, by omega⟩
  have hpart : Lz.part t d (q + 4) = Lz.lits t (min q 15) ++ [UInt8.ofNat d, UInt8.ofNat (d / 256)] ++ Lz.exts q := by unfold Lz.part; rw [show q + 4 - 4 = q from by omega]
  have hpl : (Lz.part t d (q + 4)).length = (Lz.lits t (min q 15)).length + 2 + (Lz.exts q).length := by rw [hpart]; simp; omega
  have hll := Lz.lits_length t (min q 15)
  have hle := Lz.exts_length_le n2
  rw [ht] at hll
  rw [hpl, hpart]
  have H1 := Lib.hid fun m (hm : m ≤ 15) => appendLiterals_any A n c base l A2 n2 c2 B m t w hown hbase ht hb hB hm hn2 (by omega)
  have hM : min q 15 ≤ 15 := by omega
  have H2 := fun A' c' w' ho hb => appendExtension_any A' (n + (Lz.lits t (min q 15)).length + 2) c' base q (l ++ Lz.lits t (min q 15) ++ [UInt8.ofNat d, UInt8.ofNat (d / 256)]) w' ho hb (by omega) (by omega)
  replace H2 := Lib.hid H2
  rw [show ((q + 4 : Nat) : Int) = (q : Int) + 4 from by omega]
  have hL : (Lz.lits t (min q 15)).length ≤ 2000000000000 := by omega
  generalize hE : Lz.exts q = E at *
  clear hE hb hpart hpl hll hle
  by_cases h15 : q ≤ 15
  · have h15' : (q : Int) ≤ 15 := by omega
    rw [show min q 15 = q from by omega] at *
    have Hm := Lib.hid hM
    go_enter Try.func18, Try.ntmps18
    go_wp2_with fail
    refine (H1.out q hM).mono ?_
    rintro e w1 ⟨A1, c1, rfl, ho1, hb1⟩
    clear H1 hown
    have hsz1 : base ≤ w1.heap.size := Nat.le_trans hbase hb1.size
    have htwo := own_two w1 (UInt8.ofNat d) (UInt8.ofNat (d / 256)) ((d : Int) % 256) ((d : Int) / 256) (bval_ofNat d) (by rw [bval_ofNat]; exact congrArg _ (by omega))
    have hbt := htwo.bytes
    have ho2 := ho1.alloc (.cells #[.int .u8 ((d : Int) % 256), .int .u8 ((d : Int) / 256)] 5)
    have hbel : Below base w (w1.alloc (.cells #[.int .u8 ((d : Int) % 256), .int .u8 ((d : Int) / 256)] 5)) := hb1.alloc hsz1 _
    have hsz2 : base ≤ (w1.alloc (.cells #[.int .u8 ((d : Int) % 256), .int .u8 ((d : Int) / 256)] 5)).heap.size := by simp; omega
    clear htwo ho1
    go_wp2_with (at_builtin; refine wpList_append_bytes rfl (.tmp 17) (.tmp 23) rfl base A1 (n + (Lz.lits t q).length) c1 _ rfl ho2 _ _ 2 2 [UInt8.ofNat d, UInt8.ofNat (d / 256)] rfl rfl hbt (by omega) hsz2 ?_; intro A3 c3 w3 ho3 hg3 hat3)
    have hbel3 := hbel.grown hg3 hsz2 (fun k hk => (ho2.lt hk).1)
    have hsz3 := Nat.le_trans hsz2 hg3.size
    clear ho2 hbt hg3 hat3
    refine (H2.out A3 c3 w3 ho3 hsz3).mono ?_
    rintro e w4 ⟨A4, c4, rfl, ho4, hb4⟩
    go_wp2
    go_ret
    refine ⟨A4, c4, ?_, ?_, hbel3.trans hb4⟩
    · exact congrArg (fun x => Ending.returned (.slice A4 x c4)) (by omega)
    · rw [show n + ((Lz.lits t q).length + 2 + E.length) = n + (Lz.lits t q).length + 2 + E.length from by omega]
      simpa [List.append_assoc] using ho4
  · have h15' : ¬ ((q : Int) ≤ 15) := by omega
    rw [show min q 15 = 15 from by omega] at *
    have Hm := Lib.hid hM
    go_enter Try.func18, Try.ntmps18
    go_wp2_with fail
    refine (H1.out 15 hM).mono ?_
    rintro e w1 ⟨A1, c1, rfl, ho1, hb1⟩
    clear H1 hown
    have hsz1 : base ≤ w1.heap.size := Nat.le_trans hbase hb1.size
    have htwo := own_two w1 (UInt8.ofNat d) (UInt8.ofNat (d / 256)) ((d : Int) % 256) ((d : Int) / 256) (bval_ofNat d) (by rw [bval_ofNat]; exact congrArg _ (by omega))
    have hbt := htwo.bytes
    have ho2 := ho1.alloc (.cells #[.int .u8 ((d : Int) % 256), .int .u8 ((d : Int) / 256)] 5)
    have hbel : Below base w (w1.alloc (.cells #[.int .u8 ((d : Int) % 256), .int .u8 ((d : Int) / 256)] 5)) := hb1.alloc hsz1 _
    have hsz2 : base ≤ (w1.alloc (.cells #[.int .u8 ((d : Int) % 256), .int .u8 ((d : Int) / 256)] 5)).heap.size := by simp; omega
    clear htwo ho1
    go_wp2_with (at_builtin; refine wpList_append_bytes rfl (.tmp 17) (.tmp 23) rfl base A1 (n + (Lz.lits t 15).length) c1 _ rfl ho2 _ _ 2 2 [UInt8.ofNat d, UInt8.ofNat (d / 256)] rfl rfl hbt (by omega) hsz2 ?_; intro A3 c3 w3 ho3 hg3 hat3)
    have hbel3 := hbel.grown hg3 hsz2 (fun k hk => (ho2.lt hk).1)
    have hsz3 := Nat.le_trans hsz2 hg3.size
    clear ho2 hbt hg3 hat3
    refine (H2.out A3 c3 w3 ho3 hsz3).mono ?_
    rintro e w4 ⟨A4, c4, rfl, ho4, hb4⟩
    go_wp2
    go_ret
    refine ⟨A4, c4, ?_, ?_, hbel3.trans hb4⟩
    · exact congrArg (fun x => Ending.returned (.slice A4 x c4)) (by omega)
    · rw [show n + ((Lz.lits t 15).length + 2 + E.length) = n + (Lz.lits t 15).length + 2 + E.length from by omega]
      simpa [List.append_assoc] using ho4
end Go.Proofs.Ytonknkmbkfndcaa
