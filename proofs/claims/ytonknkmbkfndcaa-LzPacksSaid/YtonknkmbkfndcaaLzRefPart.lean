/- dragnetref05.part -/
import Derived.Test.YtonknkmbkfndcaaLzRefB
namespace Go.Proofs.Ytonknkmbkfndcaa
open Go.RowKit

set_option maxHeartbeats 2000000 in
theorem refLast_any (At : Option Addr) (n2 ct : Nat) (t : List UInt8) (w : World) (ht : t.length = n2) (hb : Bytes w w.heap.size At t) (hn2 : n2 ≤ 1000000000000) :
    Calls Try.prog 21 #[.slice At n2 ct, .int .i64 0, .int .i64 0] w (MadeAt w.heap.size w (Lz.lits t 0).length (Lz.lits t 0)) := by
  by_cases h15 : n2 < 15
  · have h15' : (n2 : Int) < 15 := by omega
    have hone := own_one w (UInt8.ofNat (16 * n2 + 0)) (16 * (n2 : Int)) (by rw [bval_small (by omega)]; exact congrArg _ (by omega))
    have hbel1 : Below w.heap.size w (w.alloc (.cells #[.int .u8 (16 * (n2 : Int))] 5)) := (Below.refl _ _).alloc (Nat.le_refl _) _
    have hx1 : Lz.exts n2 = [] := Lz.exts_small (by omega)
    have hres : Lz.lits t 0 = [UInt8.ofNat (16 * n2 + 0)] ++ t := by
      unfold Lz.lits Lz.head
      rw [ht, hx1, show min n2 15 = n2 from by omega]
      all_goals simp
    rw [hres]
    have hlen : 1 + n2 = ([UInt8.ofNat (16 * n2 + 0)] ++ t).length := by simp [ht]; try omega
    generalize hTL : [UInt8.ofNat (16 * n2 + 0)] ++ t = TL at *
    generalize hTN : TL.length = TN at *
    have HTL := Lib.hid hTL
    have HTN := Lib.hid hTN
    have HLEN := Lib.hid hlen
    clear hTL hTN hlen
    clear hres hx1
    have Ht := Lib.hid ht; clear ht
    go_enter Try.func21, Try.ntmps21
    have hsz3 : w.heap.size ≤ (w.alloc (.cells #[.int .u8 (16 * (n2 : Int))] 5)).heap.size := by simp
    have hbt3 := hb.below hbel1
    go_wp2_with (at_builtin; first | (refine wpList_append_bytes rfl (.tmp 32) (.tmp 33) rfl w.heap.size _ (1) (1) _ rfl hone _ At n2 ct t rfl Ht.out hbt3 (by omega) hsz3 ?_; intro A4 c4 w4 ho4 hg4 hat4; have hbel4 := hbel1.grown hg4 hsz3 (fun k hk => (hone.lt hk).1); have hsz4 : w.heap.size ≤ w4.heap.size := hbel4.size))
    go_ret
    have hfin := ho4
    rw [HTL.out, HLEN.out] at hfin
    exact ⟨A4, c4, by rw [← HLEN.out]; rfl, hfin, hbel4⟩
  · have h15' : ¬ ((n2 : Int) < 15) := by omega
    have hone := own_one w (UInt8.ofNat (16 * 15 + 0)) (240) (by rw [bval_small (by omega)]; exact congrArg _ (by omega))
    have hbel1 : Below w.heap.size w (w.alloc (.cells #[.int .u8 (240)] 5)) := (Below.refl _ _).alloc (Nat.le_refl _) _
    have M1 := more_any (n2 - 15) (w.alloc (.cells #[.int .u8 (240)] 5)) (by omega)
    rw [show ((n2 - 15 : Nat) : Int) = (n2 : Int) - 15 from by omega] at M1
    have hE1 : (Lz.ext (n2 - 15)).length ≤ 1000000000000 := by rw [Lz.ext_length]; omega
    have hx1 : Lz.exts n2 = Lz.ext (n2 - 15) := Lz.exts_great (by omega)
    generalize Lz.ext (n2 - 15) = E1 at *
    replace M1 := Lib.hid M1
    have hres : Lz.lits t 0 = [UInt8.ofNat (16 * 15 + 0)] ++ E1 ++ t := by
      unfold Lz.lits Lz.head
      rw [ht, hx1, show min n2 15 = 15 from by omega]
      all_goals simp
    rw [hres]
    have hlen : 1 + E1.length + n2 = ([UInt8.ofNat (16 * 15 + 0)] ++ E1 ++ t).length := by simp [ht]; try omega
    generalize hTL : [UInt8.ofNat (16 * 15 + 0)] ++ E1 ++ t = TL at *
    generalize hTN : TL.length = TN at *
    have HTL := Lib.hid hTL
    have HTN := Lib.hid hTN
    have HLEN := Lib.hid hlen
    clear hTL hTN hlen
    clear hres hx1
    have Ht := Lib.hid ht; clear ht
    go_enter Try.func21, Try.ntmps21
    go_wp2_with fail
    generalize (w.alloc (.cells #[.int .u8 (240)] 5)) = w1 at *
    refine M1.out.mono ?_
    rintro e w2 ⟨A2, c2, rfl, ho2, hb2⟩
    have ho1 := hone.below (hb2.mono (Nat.le_refl _))
    have hbel2 := hbel1.trans (hb2.mono hbel1.size)
    have hsz2 : w.heap.size ≤ w2.heap.size := hbel2.size
    have hbE := ho2.bytes
    clear M1 hone hb2 ho2
    go_wp2_with (at_builtin; first | (refine wpList_append_bytes rfl (.tmp 26) (.tmp 30) rfl w.heap.size _ 1 1 _ rfl ho1 _ A2 _ c2 E1 rfl rfl hbE (by omega) hsz2 ?_; intro A3 c3 w3 ho3 hg3 hat3; have hbel3 := hbel2.grown hg3 hsz2 (fun k hk => (ho1.lt hk).1); have hsz3 : w.heap.size ≤ w3.heap.size := hbel3.size; have hbt3 := hb.below hbel3) | (refine wpList_append_bytes rfl (.tmp 32) (.tmp 33) rfl w.heap.size A3 (1 + E1.length) (c3) _ rfl ho3 _ At n2 ct t rfl Ht.out hbt3 (by omega) hsz3 ?_; intro A4 c4 w4 ho4 hg4 hat4; have hbel4 := hbel3.grown hg4 hsz3 (fun k hk => (ho3.lt hk).1); have hsz4 : w.heap.size ≤ w4.heap.size := hbel4.size))
    go_ret
    have hfin := ho4
    rw [HTL.out, HLEN.out] at hfin
    exact ⟨A4, c4, by rw [← HLEN.out]; rfl, hfin, hbel4⟩

set_option maxHeartbeats 4000000 in
theorem refPart_any (At : Option Addr) (n2 ct d k : Nat) (t : List UInt8) (w : World) (ht : t.length = n2) (hb : Bytes w w.heap.size At t) (hn2 : n2 ≤ 1000000000000) (hd1 : 1 ≤ d) (hd : d ≤ 65535) (hk : 4 ≤ k) (hk2 : k ≤ 1000000000000) :
    Calls Try.prog 21 #[.slice At n2 ct, .int .i64 (d : Int), .int .i64 (k : Int)] w (MadeAt w.heap.size w (Lz.part t d k).length (Lz.part t d k)) := by
  obtain ⟨q, rfl⟩ : ∃ q, k = q + 4 := ⟨k - 4, by omega⟩
  rw [show ((q + 4 : Nat) : Int) = (q : Int) + 4 from by omega]
  have hd0 : (0 : Int) < (d : Int) := by omega
  have hdz : ¬ ((d : Int) = 0) := by omega
  by_cases h15 : n2 < 15
  · have h15' : (n2 : Int) < 15 := by omega
    by_cases hq : q < 15
    · have hq' : (q : Int) < 15 := by omega
      have hone := own_one w (UInt8.ofNat (16 * n2 + q)) (16 * (n2 : Int) + (q : Int)) (by rw [bval_small (by omega)]; exact congrArg _ (by omega))
      have hbel1 : Below w.heap.size w (w.alloc (.cells #[.int .u8 (16 * (n2 : Int) + (q : Int))] 5)) := (Below.refl _ _).alloc (Nat.le_refl _) _
      have hx1 : Lz.exts n2 = [] := Lz.exts_small (by omega)
      have hx2 : Lz.exts q = [] := Lz.exts_small (by omega)
      have hres : Lz.part t d (q + 4) = [UInt8.ofNat (16 * n2 + q)] ++ t ++ [UInt8.ofNat d, UInt8.ofNat (d / 256)] := by
        unfold Lz.part Lz.lits Lz.head
        rw [show q + 4 - 4 = q from by omega, show min q 15 = q from by omega, hx2]
        rw [ht, hx1, show min n2 15 = n2 from by omega]
        all_goals simp
      rw [hres]
      have hlen : 1 + n2 + 2 = ([UInt8.ofNat (16 * n2 + q)] ++ t ++ [UInt8.ofNat d, UInt8.ofNat (d / 256)]).length := by simp [ht]; try omega
      generalize hTL : [UInt8.ofNat (16 * n2 + q)] ++ t ++ [UInt8.ofNat d, UInt8.ofNat (d / 256)] = TL at *
      generalize hTN : TL.length = TN at *
      have HTL := Lib.hid hTL
      have HTN := Lib.hid hTN
      have HLEN := Lib.hid hlen
      clear hTL hTN hlen
      clear hres hx1 hx2
      have Ht := Lib.hid ht; clear ht
      go_enter Try.func21, Try.ntmps21
      have hsz3 : w.heap.size ≤ (w.alloc (.cells #[.int .u8 (16 * (n2 : Int) + (q : Int))] 5)).heap.size := by simp
      have hbt3 := hb.below hbel1
      go_wp2_with (at_builtin; first | (refine wpList_append_bytes rfl (.tmp 32) (.tmp 33) rfl w.heap.size _ (1) (1) _ rfl hone _ At n2 ct t rfl Ht.out hbt3 (by omega) hsz3 ?_; intro A4 c4 w4 ho4 hg4 hat4; have hbel4 := hbel1.grown hg4 hsz3 (fun k hk => (hone.lt hk).1); have hsz4 : w.heap.size ≤ w4.heap.size := hbel4.size) | (have htwo := own_two w4 (UInt8.ofNat d) (UInt8.ofNat (d / 256)) ((d : Int) % 256) ((d : Int) / 256) (bval_ofNat d) (by rw [bval_ofNat]; exact congrArg _ (by omega)); refine wpList_append_bytes rfl (.tmp 38) (.tmp 45) rfl w.heap.size A4 (1 + n2) c4 _ rfl (ho4.alloc _) _ _ 2 2 [UInt8.ofNat d, UInt8.ofNat (d / 256)] rfl rfl htwo.bytes (by omega) (by simp; omega) ?_; intro A5 c5 w5 ho5 hg5 hat5; have hbel5 := (hbel4.alloc hsz4 (.cells #[.int .u8 ((d : Int) % 256), .int .u8 ((d : Int) / 256)] 5)).grown hg5 (by simp; omega) (fun k hk => (ho4.lt hk).1); have hsz5 : w.heap.size ≤ w5.heap.size := hbel5.size))
      go_ret
      have hfin := ho5
      rw [HTL.out, HLEN.out] at hfin
      exact ⟨A5, c5, by rw [← HLEN.out]; rfl, hfin, hbel5⟩
    · have hq' : ¬ ((q : Int) < 15) := by omega
      have hone := own_one w (UInt8.ofNat (16 * n2 + 15)) (16 * (n2 : Int) + 15) (by rw [bval_small (by omega)]; exact congrArg _ (by omega))
      have hbel1 : Below w.heap.size w (w.alloc (.cells #[.int .u8 (16 * (n2 : Int) + 15)] 5)) := (Below.refl _ _).alloc (Nat.le_refl _) _
      have hx1 : Lz.exts n2 = [] := Lz.exts_small (by omega)
      have M2 := fun w' => more_any (q - 15) w' (by omega)
      rw [show ((q - 15 : Nat) : Int) = (q : Int) + 4 - 19 from by omega] at M2
      have hE2 : (Lz.ext (q - 15)).length ≤ 1000000000000 := by rw [Lz.ext_length]; omega
      have hx2 : Lz.exts q = Lz.ext (q - 15) := Lz.exts_great (by omega)
      generalize Lz.ext (q - 15) = E2 at *
      replace M2 := Lib.hid M2
      have hres : Lz.part t d (q + 4) = [UInt8.ofNat (16 * n2 + 15)] ++ t ++ [UInt8.ofNat d, UInt8.ofNat (d / 256)] ++ E2 := by
        unfold Lz.part Lz.lits Lz.head
        rw [show q + 4 - 4 = q from by omega, show min q 15 = 15 from by omega, hx2]
        rw [ht, hx1, show min n2 15 = n2 from by omega]
        all_goals simp
      rw [hres]
      have hlen : 1 + n2 + 2 + E2.length = ([UInt8.ofNat (16 * n2 + 15)] ++ t ++ [UInt8.ofNat d, UInt8.ofNat (d / 256)] ++ E2).length := by simp [ht]; try omega
      generalize hTL : [UInt8.ofNat (16 * n2 + 15)] ++ t ++ [UInt8.ofNat d, UInt8.ofNat (d / 256)] ++ E2 = TL at *
      generalize hTN : TL.length = TN at *
      have HTL := Lib.hid hTL
      have HTN := Lib.hid hTN
      have HLEN := Lib.hid hlen
      clear hTL hTN hlen
      clear hres hx1 hx2
      have Ht := Lib.hid ht; clear ht
      go_enter Try.func21, Try.ntmps21
      have hsz3 : w.heap.size ≤ (w.alloc (.cells #[.int .u8 (16 * (n2 : Int) + 15)] 5)).heap.size := by simp
      have hbt3 := hb.below hbel1
      go_wp2_with (at_builtin; first | (refine wpList_append_bytes rfl (.tmp 32) (.tmp 33) rfl w.heap.size _ (1) (1) _ rfl hone _ At n2 ct t rfl Ht.out hbt3 (by omega) hsz3 ?_; intro A4 c4 w4 ho4 hg4 hat4; have hbel4 := hbel1.grown hg4 hsz3 (fun k hk => (hone.lt hk).1); have hsz4 : w.heap.size ≤ w4.heap.size := hbel4.size) | (have htwo := own_two w4 (UInt8.ofNat d) (UInt8.ofNat (d / 256)) ((d : Int) % 256) ((d : Int) / 256) (bval_ofNat d) (by rw [bval_ofNat]; exact congrArg _ (by omega)); refine wpList_append_bytes rfl (.tmp 38) (.tmp 45) rfl w.heap.size A4 (1 + n2) c4 _ rfl (ho4.alloc _) _ _ 2 2 [UInt8.ofNat d, UInt8.ofNat (d / 256)] rfl rfl htwo.bytes (by omega) (by simp; omega) ?_; intro A5 c5 w5 ho5 hg5 hat5; have hbel5 := (hbel4.alloc hsz4 (.cells #[.int .u8 ((d : Int) % 256), .int .u8 ((d : Int) / 256)] 5)).grown hg5 (by simp; omega) (fun k hk => (ho4.lt hk).1); have hsz5 : w.heap.size ≤ w5.heap.size := hbel5.size))
      refine (M2.out w5).mono ?_
      rintro e w6 ⟨A6, c6, rfl, ho6, hb6⟩
      have ho5' := ho5.below hb6
      have hbel6 := hbel5.trans (hb6.mono hsz5)
      have hsz6 : w.heap.size ≤ w6.heap.size := hbel6.size
      have hbE2 := ho6.bytes
      clear M2 ho6 hb6
      go_wp2_with (at_builtin; refine wpList_append_bytes rfl (.tmp 49) (.tmp 52) rfl w.heap.size A5 (1 + n2 + 2) c5 _ rfl ho5' _ A6 _ c6 E2 rfl rfl hbE2 (by omega) hsz6 ?_; intro A7 c7 w7 ho7 hg7 hat7)
      have hbel7 := hbel6.grown hg7 hsz6 (fun k hk => (ho5'.lt hk).1)
      go_ret
      have hfin := ho7
      rw [HTL.out, HLEN.out] at hfin
      exact ⟨A7, c7, by rw [← HLEN.out]; rfl, hfin, hbel7⟩
  · have h15' : ¬ ((n2 : Int) < 15) := by omega
    by_cases hq : q < 15
    · have hq' : (q : Int) < 15 := by omega
      have hone := own_one w (UInt8.ofNat (16 * 15 + q)) (240 + (q : Int)) (by rw [bval_small (by omega)]; exact congrArg _ (by omega))
      have hbel1 : Below w.heap.size w (w.alloc (.cells #[.int .u8 (240 + (q : Int))] 5)) := (Below.refl _ _).alloc (Nat.le_refl _) _
      have M1 := more_any (n2 - 15) (w.alloc (.cells #[.int .u8 (240 + (q : Int))] 5)) (by omega)
      rw [show ((n2 - 15 : Nat) : Int) = (n2 : Int) - 15 from by omega] at M1
      have hE1 : (Lz.ext (n2 - 15)).length ≤ 1000000000000 := by rw [Lz.ext_length]; omega
      have hx1 : Lz.exts n2 = Lz.ext (n2 - 15) := Lz.exts_great (by omega)
      generalize Lz.ext (n2 - 15) = E1 at *
      replace M1 := Lib.hid M1
      have hx2 : Lz.exts q = [] := Lz.exts_small (by omega)
      have hres : Lz.part t d (q + 4) = [UInt8.ofNat (16 * 15 + q)] ++ E1 ++ t ++ [UInt8.ofNat d, UInt8.ofNat (d / 256)] := by
        unfold Lz.part Lz.lits Lz.head
        rw [show q + 4 - 4 = q from by omega, show min q 15 = q from by omega, hx2]
        rw [ht, hx1, show min n2 15 = 15 from by omega]
        all_goals simp
      rw [hres]
      have hlen : 1 + E1.length + n2 + 2 = ([UInt8.ofNat (16 * 15 + q)] ++ E1 ++ t ++ [UInt8.ofNat d, UInt8.ofNat (d / 256)]).length := by simp [ht]; try omega
      generalize hTL : [UInt8.ofNat (16 * 15 + q)] ++ E1 ++ t ++ [UInt8.ofNat d, UInt8.ofNat (d / 256)] = TL at *
      generalize hTN : TL.length = TN at *
      have HTL := Lib.hid hTL
      have HTN := Lib.hid hTN
      have HLEN := Lib.hid hlen
      clear hTL hTN hlen
      clear hres hx1 hx2
      have Ht := Lib.hid ht; clear ht
      go_enter Try.func21, Try.ntmps21
      go_wp2_with fail
      generalize (w.alloc (.cells #[.int .u8 (240 + (q : Int))] 5)) = w1 at *
      refine M1.out.mono ?_
      rintro e w2 ⟨A2, c2, rfl, ho2, hb2⟩
      have ho1 := hone.below (hb2.mono (Nat.le_refl _))
      have hbel2 := hbel1.trans (hb2.mono hbel1.size)
      have hsz2 : w.heap.size ≤ w2.heap.size := hbel2.size
      have hbE := ho2.bytes
      clear M1 hone hb2 ho2
      go_wp2_with (at_builtin; first | (refine wpList_append_bytes rfl (.tmp 26) (.tmp 30) rfl w.heap.size _ 1 1 _ rfl ho1 _ A2 _ c2 E1 rfl rfl hbE (by omega) hsz2 ?_; intro A3 c3 w3 ho3 hg3 hat3; have hbel3 := hbel2.grown hg3 hsz2 (fun k hk => (ho1.lt hk).1); have hsz3 : w.heap.size ≤ w3.heap.size := hbel3.size; have hbt3 := hb.below hbel3) | (refine wpList_append_bytes rfl (.tmp 32) (.tmp 33) rfl w.heap.size A3 (1 + E1.length) (c3) _ rfl ho3 _ At n2 ct t rfl Ht.out hbt3 (by omega) hsz3 ?_; intro A4 c4 w4 ho4 hg4 hat4; have hbel4 := hbel3.grown hg4 hsz3 (fun k hk => (ho3.lt hk).1); have hsz4 : w.heap.size ≤ w4.heap.size := hbel4.size) | (have htwo := own_two w4 (UInt8.ofNat d) (UInt8.ofNat (d / 256)) ((d : Int) % 256) ((d : Int) / 256) (bval_ofNat d) (by rw [bval_ofNat]; exact congrArg _ (by omega)); refine wpList_append_bytes rfl (.tmp 38) (.tmp 45) rfl w.heap.size A4 (1 + E1.length + n2) c4 _ rfl (ho4.alloc _) _ _ 2 2 [UInt8.ofNat d, UInt8.ofNat (d / 256)] rfl rfl htwo.bytes (by omega) (by simp; omega) ?_; intro A5 c5 w5 ho5 hg5 hat5; have hbel5 := (hbel4.alloc hsz4 (.cells #[.int .u8 ((d : Int) % 256), .int .u8 ((d : Int) / 256)] 5)).grown hg5 (by simp; omega) (fun k hk => (ho4.lt hk).1); have hsz5 : w.heap.size ≤ w5.heap.size := hbel5.size))
      go_ret
      have hfin := ho5
      rw [HTL.out, HLEN.out] at hfin
      exact ⟨A5, c5, by rw [← HLEN.out]; rfl, hfin, hbel5⟩
    · have hq' : ¬ ((q : Int) < 15) := by omega
      have hone := own_one w (UInt8.ofNat (16 * 15 + 15)) (255) (by rw [bval_small (by omega)]; exact congrArg _ (by omega))
      have hbel1 : Below w.heap.size w (w.alloc (.cells #[.int .u8 (255)] 5)) := (Below.refl _ _).alloc (Nat.le_refl _) _
      have M1 := more_any (n2 - 15) (w.alloc (.cells #[.int .u8 (255)] 5)) (by omega)
      rw [show ((n2 - 15 : Nat) : Int) = (n2 : Int) - 15 from by omega] at M1
      have hE1 : (Lz.ext (n2 - 15)).length ≤ 1000000000000 := by rw [Lz.ext_length]; omega
      have hx1 : Lz.exts n2 = Lz.ext (n2 - 15) := Lz.exts_great (by omega)
      generalize Lz.ext (n2 - 15) = E1 at *
      replace M1 := Lib.hid M1
      have M2 := fun w' => more_any (q - 15) w' (by omega)
      rw [show ((q - 15 : Nat) : Int) = (q : Int) + 4 - 19 from by omega] at M2
      have hE2 : (Lz.ext (q - 15)).length ≤ 1000000000000 := by rw [Lz.ext_length]; omega
      have hx2 : Lz.exts q = Lz.ext (q - 15) := Lz.exts_great (by omega)
      generalize Lz.ext (q - 15) = E2 at *
      replace M2 := Lib.hid M2
      have hres : Lz.part t d (q + 4) = [UInt8.ofNat (16 * 15 + 15)] ++ E1 ++ t ++ [UInt8.ofNat d, UInt8.ofNat (d / 256)] ++ E2 := by
        unfold Lz.part Lz.lits Lz.head
        rw [show q + 4 - 4 = q from by omega, show min q 15 = 15 from by omega, hx2]
        rw [ht, hx1, show min n2 15 = 15 from by omega]
        all_goals simp
      rw [hres]
      have hlen : 1 + E1.length + n2 + 2 + E2.length = ([UInt8.ofNat (16 * 15 + 15)] ++ E1 ++ t ++ [UInt8.ofNat d, UInt8.ofNat (d / 256)] ++ E2).length := by simp [ht]; try omega
      generalize hTL : [UInt8.ofNat (16 * 15 + 15)] ++ E1 ++ t ++ [UInt8.ofNat d, UInt8.ofNat (d / 256)] ++ E2 = TL at *
      generalize hTN : TL.length = TN at *
      have HTL := Lib.hid hTL
      have HTN := Lib.hid hTN
      have HLEN := Lib.hid hlen
      clear hTL hTN hlen
      clear hres hx1 hx2
      have Ht := Lib.hid ht; clear ht
      go_enter Try.func21, Try.ntmps21
      go_wp2_with fail
      generalize (w.alloc (.cells #[.int .u8 (255)] 5)) = w1 at *
      refine M1.out.mono ?_
      rintro e w2 ⟨A2, c2, rfl, ho2, hb2⟩
      have ho1 := hone.below (hb2.mono (Nat.le_refl _))
      have hbel2 := hbel1.trans (hb2.mono hbel1.size)
      have hsz2 : w.heap.size ≤ w2.heap.size := hbel2.size
      have hbE := ho2.bytes
      clear M1 hone hb2 ho2
      go_wp2_with (at_builtin; first | (refine wpList_append_bytes rfl (.tmp 26) (.tmp 30) rfl w.heap.size _ 1 1 _ rfl ho1 _ A2 _ c2 E1 rfl rfl hbE (by omega) hsz2 ?_; intro A3 c3 w3 ho3 hg3 hat3; have hbel3 := hbel2.grown hg3 hsz2 (fun k hk => (ho1.lt hk).1); have hsz3 : w.heap.size ≤ w3.heap.size := hbel3.size; have hbt3 := hb.below hbel3) | (refine wpList_append_bytes rfl (.tmp 32) (.tmp 33) rfl w.heap.size A3 (1 + E1.length) (c3) _ rfl ho3 _ At n2 ct t rfl Ht.out hbt3 (by omega) hsz3 ?_; intro A4 c4 w4 ho4 hg4 hat4; have hbel4 := hbel3.grown hg4 hsz3 (fun k hk => (ho3.lt hk).1); have hsz4 : w.heap.size ≤ w4.heap.size := hbel4.size) | (have htwo := own_two w4 (UInt8.ofNat d) (UInt8.ofNat (d / 256)) ((d : Int) % 256) ((d : Int) / 256) (bval_ofNat d) (by rw [bval_ofNat]; exact congrArg _ (by omega)); refine wpList_append_bytes rfl (.tmp 38) (.tmp 45) rfl w.heap.size A4 (1 + E1.length + n2) c4 _ rfl (ho4.alloc _) _ _ 2 2 [UInt8.ofNat d, UInt8.ofNat (d / 256)] rfl rfl htwo.bytes (by omega) (by simp; omega) ?_; intro A5 c5 w5 ho5 hg5 hat5; have hbel5 := (hbel4.alloc hsz4 (.cells #[.int .u8 ((d : Int) % 256), .int .u8 ((d : Int) / 256)] 5)).grown hg5 (by simp; omega) (fun k hk => (ho4.lt hk).1); have hsz5 : w.heap.size ≤ w5.heap.size := hbel5.size))
      refine (M2.out w5).mono ?_
      rintro e w6 ⟨A6, c6, rfl, ho6, hb6⟩
      have ho5' := ho5.below hb6
      have hbel6 := hbel5.trans (hb6.mono hsz5)
      have hsz6 : w.heap.size ≤ w6.heap.size := hbel6.size
      have hbE2 := ho6.bytes
      clear M2 ho6 hb6
      go_wp2_with (at_builtin; refine wpList_append_bytes rfl (.tmp 49) (.tmp 52) rfl w.heap.size A5 (1 + E1.length + n2 + 2) c5 _ rfl ho5' _ A6 _ c6 E2 rfl rfl hbE2 (by omega) hsz6 ?_; intro A7 c7 w7 ho7 hg7 hat7)
      have hbel7 := hbel6.grown hg7 hsz6 (fun k hk => (ho5'.lt hk).1)
      go_ret
      have hfin := ho7
      rw [HTL.out, HLEN.out] at hfin
      exact ⟨A7, c7, by rw [← HLEN.out]; rfl, hfin, hbel7⟩
end Go.Proofs.Ytonknkmbkfndcaa
