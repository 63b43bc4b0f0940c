/- Texts of several layers, one behind the other: LzRefPart LzRefPack LzBack Gotos LzUnp LzUnpAny LzRefUnp. -/
import Derived.Test.YtoebeibmmclhpaaGreatGTC
import Derived.Test.YtoebeibmmclhpaaGreatGTG
import Derived.Scope
import Derived.ScopeJumps
import Derived.WalkMore
import Derived.Deep.RegionHeld3
import Derived.StillTailTactics
/- dragnetref05.part -/
namespace Go.Proofs.YtoebeibmmclhpaaGreat
open Go.RowKit
set_option maxRecDepth 100000
set_option maxHeartbeats 2000000 in
theorem refLast_any (At : Option Addr) (n2 ct : Nat) (t : List UInt8) (w : World) (ht : t.length = n2) (hb : Bytes w w.heap.size At t) (hn2 : n2 ≤ 1000000000000) :
    Calls Tryz.prog 49 #[.slice At n2 ct, .int .i64 0, .int .i64 0] w (MadeAt w.heap.size w (Lz.lits t 0).length (Lz.lits t 0)) := by
  by_cases h15 : n2 < 15
  · have h15' : (n2 : Int) < 15 := by omega
    have hone := own_one w (UInt8.ofNat (16 * n2 + 0)) (16 * (n2 : Int)) (by rw [bval_small (by omega)]; exact congrArg _ (by omega))
    have hbel1 : Below w.heap.size w (w.alloc (.cells #[.int .u8 (16 * (n2 : Int))] 5)) := (Below.refl _ _).alloc (Nat.le_refl _) _
    have hx1 : Lz.exts n2 = [] := Lz.exts_small (by omega)
    have hres : Lz.lits t 0 = [UInt8.ofNat (16 * n2 + 0)] ++ t := by
      unfold Lz.lits Lz.head
      rw [ht, hx1, show min n2 15 = n2 from by omega]
      all_goals simp
    rw [hres]
    have hlen : 1 + n2 = ([UInt8.ofNat (16 * n2 + 0)] ++ t).length := by simp [ht]; try omega
    generalize hTL : [UInt8.ofNat (16 * n2 + 0)] ++ t = TL at *
    generalize hTN : TL.length = TN at *
    have HTL := Lib.hid hTL
    have HTN := Lib.hid hTN
    have HLEN := Lib.hid hlen
    clear hTL hTN hlen
    clear hres hx1
    have Ht := Lib.hid ht; clear ht
    go_enter Tryz.func49, Tryz.ntmps49
    have hsz3 : w.heap.size ≤ (w.alloc (.cells #[.int .u8 (16 * (n2 : Int))] 5)).heap.size := by simp
    have hbt3 := hb.below hbel1
    go_wp2_with (at_builtin; first | (refine wpList_append_bytes rfl (.tmp 32) (.tmp 33) rfl w.heap.size _ (1) (1) _ rfl hone _ At n2 ct t rfl Ht.out hbt3 (by omega) hsz3 ?_; intro A4 c4 w4 ho4 hg4 hat4; have hbel4 := hbel1.grown hg4 hsz3 (fun k hk => (hone.lt hk).1); have hsz4 : w.heap.size ≤ w4.heap.size := hbel4.size))
    go_ret
    have hfin := ho4
    rw [HTL.out, HLEN.out] at hfin
    exact ⟨A4, c4, by rw [← HLEN.out]; rfl, hfin, hbel4⟩
  · have h15' : ¬ ((n2 : Int) < 15) := by omega
    have hone := own_one w (UInt8.ofNat (16 * 15 + 0)) (240) (by rw [bval_small (by omega)]; exact congrArg _ (by omega))
    have hbel1 : Below w.heap.size w (w.alloc (.cells #[.int .u8 (240)] 5)) := (Below.refl _ _).alloc (Nat.le_refl _) _
    have M1 := more_any (n2 - 15) (w.alloc (.cells #[.int .u8 (240)] 5)) (by omega)
    rw [show ((n2 - 15 : Nat) : Int) = (n2 : Int) - 15 from by omega] at M1
    have hE1 : (Lz.ext (n2 - 15)).length ≤ 1000000000000 := by rw [Lz.ext_length]; omega
    have hx1 : Lz.exts n2 = Lz.ext (n2 - 15) := Lz.exts_great (by omega)
    generalize Lz.ext (n2 - 15) = E1 at *
    replace M1 := Lib.hid M1
    have hres : Lz.lits t 0 = [UInt8.ofNat (16 * 15 + 0)] ++ E1 ++ t := by
      unfold Lz.lits Lz.head
      rw [ht, hx1, show min n2 15 = 15 from by omega]
      all_goals simp
    rw [hres]
    have hlen : 1 + E1.length + n2 = ([UInt8.ofNat (16 * 15 + 0)] ++ E1 ++ t).length := by simp [ht]; try omega
    generalize hTL : [UInt8.ofNat (16 * 15 + 0)] ++ E1 ++ t = TL at *
    generalize hTN : TL.length = TN at *
    have HTL := Lib.hid hTL
    have HTN := Lib.hid hTN
    have HLEN := Lib.hid hlen
    clear hTL hTN hlen
    clear hres hx1
    have Ht := Lib.hid ht; clear ht
    go_enter Tryz.func49, Tryz.ntmps49
    go_wp2_with fail
    generalize (w.alloc (.cells #[.int .u8 (240)] 5)) = w1 at *
    refine M1.out.mono ?_
    rintro e w2 ⟨A2, c2, rfl, ho2, hb2⟩
    have ho1 := hone.below (hb2.mono (Nat.le_refl _))
    have hbel2 := hbel1.trans (hb2.mono hbel1.size)
    have hsz2 : w.heap.size ≤ w2.heap.size := hbel2.size
    have hbE := ho2.bytes
    clear M1 hone hb2 ho2
    go_wp2_with (at_builtin; first | (refine wpList_append_bytes rfl (.tmp 26) (.tmp 30) rfl w.heap.size _ 1 1 _ rfl ho1 _ A2 _ c2 E1 rfl rfl hbE (by omega) hsz2 ?_; intro A3 c3 w3 ho3 hg3 hat3; have hbel3 := hbel2.grown hg3 hsz2 (fun k hk => (ho1.lt hk).1); have hsz3 : w.heap.size ≤ w3.heap.size := hbel3.size; have hbt3 := hb.below hbel3) | (refine wpList_append_bytes rfl (.tmp 32) (.tmp 33) rfl w.heap.size A3 (1 + E1.length) (c3) _ rfl ho3 _ At n2 ct t rfl Ht.out hbt3 (by omega) hsz3 ?_; intro A4 c4 w4 ho4 hg4 hat4; have hbel4 := hbel3.grown hg4 hsz3 (fun k hk => (ho3.lt hk).1); have hsz4 : w.heap.size ≤ w4.heap.size := hbel4.size))
    go_ret
    have hfin := ho4
    rw [HTL.out, HLEN.out] at hfin
    exact ⟨A4, c4, by rw [← HLEN.out]; rfl, hfin, hbel4⟩
set_option maxHeartbeats 4000000 in
theorem refPart_any (At : Option Addr) (n2 ct d k : Nat) (t : List UInt8) (w : World) (ht : t.length = n2) (hb : Bytes w w.heap.size At t) (hn2 : n2 ≤ 1000000000000) (hd1 : 1 ≤ d) (hd : d ≤ 65535) (hk : 4 ≤ k) (hk2 : k ≤ 1000000000000) :
    Calls Tryz.prog 49 #[.slice At n2 ct, .int .i64 (d : Int), .int .i64 (k : Int)] w (MadeAt w.heap.size w (Lz.part t d k).length (Lz.part t d k)) := by
  obtain ⟨q, rfl⟩ : ∃ q, k = q + 4 := ⟨k - 4, by omega⟩
  rw [show ((q + 4 : Nat) : Int) = (q : Int) + 4 from by omega]
  have hd0 : (0 : Int) < (d : Int) := by omega
  have hdz : ¬ ((d : Int) = 0) := by omega
  by_cases h15 : n2 < 15
  · have h15' : (n2 : Int) < 15 := by omega
    by_cases hq : q < 15
    · have hq' : (q : Int) < 15 := by omega
      have hone := own_one w (UInt8.ofNat (16 * n2 + q)) (16 * (n2 : Int) + (q : Int)) (by rw [bval_small (by omega)]; exact congrArg _ (by omega))
      have hbel1 : Below w.heap.size w (w.alloc (.cells #[.int .u8 (16 * (n2 : Int) + (q : Int))] 5)) := (Below.refl _ _).alloc (Nat.le_refl _) _
      have hx1 : Lz.exts n2 = [] := Lz.exts_small (by omega)
      have hx2 : Lz.exts q = [] := Lz.exts_small (by omega)
      have hres : Lz.part t d (q + 4) = [UInt8.ofNat (16 * n2 + q)] ++ t ++ [UInt8.ofNat d, UInt8.ofNat (d / 256)] := by
        unfold Lz.part Lz.lits Lz.head
        rw [show q + 4 - 4 = q from by omega, show min q 15 = q from by omega, hx2]
        rw [ht, hx1, show min n2 15 = n2 from by omega]
        all_goals simp
      rw [hres]
      have hlen : 1 + n2 + 2 = ([UInt8.ofNat (16 * n2 + q)] ++ t ++ [UInt8.ofNat d, UInt8.ofNat (d / 256)]).length := by simp [ht]; try omega
      generalize hTL : [UInt8.ofNat (16 * n2 + q)] ++ t ++ [UInt8.ofNat d, UInt8.ofNat (d / 256)] = TL at *
      generalize hTN : TL.length = TN at *
      have HTL := Lib.hid hTL
      have HTN := Lib.hid hTN
      have HLEN := Lib.hid hlen
      clear hTL hTN hlen
      clear hres hx1 hx2
      have Ht := Lib.hid ht; clear ht
      go_enter Tryz.func49, Tryz.ntmps49
      have hsz3 : w.heap.size ≤ (w.alloc (.cells #[.int .u8 (16 * (n2 : Int) + (q : Int))] 5)).heap.size := by simp
      have hbt3 := hb.below hbel1
      go_wp2_with (at_builtin; first | (refine wpList_append_bytes rfl (.tmp 32) (.tmp 33) rfl w.heap.size _ (1) (1) _ rfl hone _ At n2 ct t rfl Ht.out hbt3 (by omega) hsz3 ?_; intro A4 c4 w4 ho4 hg4 hat4; have hbel4 := hbel1.grown hg4 hsz3 (fun k hk => (hone.lt hk).1); have hsz4 : w.heap.size ≤ w4.heap.size := hbel4.size) | (have htwo := own_two w4 (UInt8.ofNat d) (UInt8.ofNat (d / 256)) ((d : Int) % 256) ((d : Int) / 256) (bval_ofNat d) (by rw [bval_ofNat]; exact congrArg _ (by omega)); refine wpList_append_bytes rfl (.tmp 38) (.tmp 45) rfl w.heap.size A4 (1 + n2) c4 _ rfl (ho4.alloc _) _ _ 2 2 [UInt8.ofNat d, UInt8.ofNat (d / 256)] rfl rfl htwo.bytes (by omega) (by simp; omega) ?_; intro A5 c5 w5 ho5 hg5 hat5; have hbel5 := (hbel4.alloc hsz4 (.cells #[.int .u8 ((d : Int) % 256), .int .u8 ((d : Int) / 256)] 5)).grown hg5 (by simp; omega) (fun k hk => (ho4.lt hk).1); have hsz5 : w.heap.size ≤ w5.heap.size := hbel5.size))
      go_ret
      have hfin := ho5
      rw [HTL.out, HLEN.out] at hfin
      exact ⟨A5, c5, by rw [← HLEN.out]; rfl, hfin, hbel5⟩
    · have hq' : ¬ ((q : Int) < 15) := by omega
      have hone := own_one w (UInt8.ofNat (16 * n2 + 15)) (16 * (n2 : Int) + 15) (by rw [bval_small (by omega)]; exact congrArg _ (by omega))
      have hbel1 : Below w.heap.size w (w.alloc (.cells #[.int .u8 (16 * (n2 : Int) + 15)] 5)) := (Below.refl _ _).alloc (Nat.le_refl _) _
      have hx1 : Lz.exts n2 = [] := Lz.exts_small (by omega)
      have M2 := fun w' => more_any (q - 15) w' (by omega)
      rw [show ((q - 15 : Nat) : Int) = (q : Int) + 4 - 19 from by omega] at M2
      have hE2 : (Lz.ext (q - 15)).length ≤ 1000000000000 := by rw [Lz.ext_length]; omega
      have hx2 : Lz.exts q = Lz.ext (q - 15) := Lz.exts_great (by omega)
      generalize Lz.ext (q - 15) = E2 at *
      replace M2 := Lib.hid M2
      have hres : Lz.part t d (q + 4) = [UInt8.ofNat (16 * n2 + 15)] ++ t ++ [UInt8.ofNat d, UInt8.ofNat (d / 256)] ++ E2 := by
        unfold Lz.part Lz.lits Lz.head
        rw [show q + 4 - 4 = q from by omega, show min q 15 = 15 from by omega, hx2]
        rw [ht, hx1, show min n2 15 = n2 from by omega]
        all_goals simp
      rw [hres]
      have hlen : 1 + n2 + 2 + E2.length = ([UInt8.ofNat (16 * n2 + 15)] ++ t ++ [UInt8.ofNat d, UInt8.ofNat (d / 256)] ++ E2).length := by simp [ht]; try omega
      generalize hTL : [UInt8.ofNat (16 * n2 + 15)] ++ t ++ [UInt8.ofNat d, UInt8.ofNat (d / 256)] ++ E2 = TL at *
      generalize hTN : TL.length = TN at *
      have HTL := Lib.hid hTL
      have HTN := Lib.hid hTN
      have HLEN := Lib.hid hlen
      clear hTL hTN hlen
      clear hres hx1 hx2
      have Ht := Lib.hid ht; clear ht
      go_enter Tryz.func49, Tryz.ntmps49
      have hsz3 : w.heap.size ≤ (w.alloc (.cells #[.int .u8 (16 * (n2 : Int) + 15)] 5)).heap.size := by simp
      have hbt3 := hb.below hbel1
      go_wp2_with (at_builtin; first | (refine wpList_append_bytes rfl (.tmp 32) (.tmp 33) rfl w.heap.size _ (1) (1) _ rfl hone _ At n2 ct t rfl Ht.out hbt3 (by omega) hsz3 ?_; intro A4 c4 w4 ho4 hg4 hat4; have hbel4 := hbel1.grown hg4 hsz3 (fun k hk => (hone.lt hk).1); have hsz4 : w.heap.size ≤ w4.heap.size := hbel4.size) | (have htwo := own_two w4 (UInt8.ofNat d) (UInt8.ofNat (d / 256)) ((d : Int) % 256) ((d : Int) / 256) (bval_ofNat d) (by rw [bval_ofNat]; exact congrArg _ (by omega)); refine wpList_append_bytes rfl (.tmp 38) (.tmp 45) rfl w.heap.size A4 (1 + n2) c4 _ rfl (ho4.alloc _) _ _ 2 2 [UInt8.ofNat d, UInt8.ofNat (d / 256)] rfl rfl htwo.bytes (by omega) (by simp; omega) ?_; intro A5 c5 w5 ho5 hg5 hat5; have hbel5 := (hbel4.alloc hsz4 (.cells #[.int .u8 ((d : Int) % 256), .int .u8 ((d : Int) / 256)] 5)).grown hg5 (by simp; omega) (fun k hk => (ho4.lt hk).1); have hsz5 : w.heap.size ≤ w5.heap.size := hbel5.size))
      refine (M2.out w5).mono ?_
      rintro e w6 ⟨A6, c6, rfl, ho6, hb6⟩
      have ho5' := ho5.below hb6
      have hbel6 := hbel5.trans (hb6.mono hsz5)
      have hsz6 : w.heap.size ≤ w6.heap.size := hbel6.size
      have hbE2 := ho6.bytes
      clear M2 ho6 hb6
      go_wp2_with (at_builtin; refine wpList_append_bytes rfl (.tmp 49) (.tmp 52) rfl w.heap.size A5 (1 + n2 + 2) c5 _ rfl ho5' _ A6 _ c6 E2 rfl rfl hbE2 (by omega) hsz6 ?_; intro A7 c7 w7 ho7 hg7 hat7)
      have hbel7 := hbel6.grown hg7 hsz6 (fun k hk => (ho5'.lt hk).1)
      go_ret
      have hfin := ho7
      rw [HTL.out, HLEN.out] at hfin
      exact ⟨A7, c7, by rw [← HLEN.out]; rfl, hfin, hbel7⟩
  · have h15' : ¬ ((n2 : Int) < 15) := by omega
    by_cases hq : q < 15
    · have hq' : (q : Int) < 15 := by omega
      have hone := own_one w (UInt8.ofNat (16 * 15 + q)) (240 + (q : Int)) (by rw [bval_small (by omega)]; exact congrArg _ (by omega))
      have hbel1 : Below w.heap.size w (w.alloc (.cells #[.int .u8 (240 + (q : Int))] 5)) := (Below.refl _ _).alloc (Nat.le_refl _) _
      have M1 := more_any (n2 - 15) (w.alloc (.cells #[.int .u8 (240 + (q : Int))] 5)) (by omega)
      rw [show ((n2 - 15 : Nat) : Int) = (n2 : Int) - 15 from by omega] at M1
      have hE1 : (Lz.ext (n2 - 15)).length ≤ 1000000000000 := by rw [Lz.ext_length]; omega
      have hx1 : Lz.exts n2 = Lz.ext (n2 - 15) := Lz.exts_great (by omega)
      generalize Lz.ext (n2 - 15) = E1 at *
      replace M1 := Lib.hid M1
      have hx2 : Lz.exts q = [] := Lz.exts_small (by omega)
      have hres : Lz.part t d (q + 4) = [UInt8.ofNat (16 * 15 + q)] ++ E1 ++ t ++ [UInt8.ofNat d, UInt8.ofNat (d / 256)] := by
        unfold Lz.part Lz.lits Lz.head
        rw [show q + 4 - 4 = q from by omega, show min q 15 = q from by omega, hx2]
        rw [ht, hx1, show min n2 15 = 15 from by omega]
        all_goals simp
      rw [hres]
      have hlen : 1 + E1.length + n2 + 2 = ([UInt8.ofNat (16 * 15 + q)] ++ E1 ++ t ++ [UInt8.ofNat d, UInt8.ofNat (d / 256)]).length := by simp [ht]; try omega
      generalize hTL : [UInt8.ofNat (16 * 15 + q)] ++ E1 ++ t ++ [UInt8.ofNat d, UInt8.ofNat (d / 256)] = TL at *
      generalize hTN : TL.length = TN at *
      have HTL := Lib.hid hTL
      have HTN := Lib.hid hTN
      have HLEN := Lib.hid hlen
      clear hTL hTN hlen
      clear hres hx1 hx2
      have Ht := Lib.hid ht; clear ht
      go_enter Tryz.func49, Tryz.ntmps49
      go_wp2_with fail
      generalize (w.alloc (.cells #[.int .u8 (240 + (q : Int))] 5)) = w1 at *
      refine M1.out.mono ?_
      rintro e w2 ⟨A2, c2, rfl, ho2, hb2⟩
      have ho1 := hone.below (hb2.mono (Nat.le_refl _))
      have hbel2 := hbel1.trans (hb2.mono hbel1.size)
      have hsz2 : w.heap.size ≤ w2.heap.size := hbel2.size
      have hbE := ho2.bytes
      clear M1 hone hb2 ho2
      go_wp2_with (at_builtin; first | (refine wpList_append_bytes rfl (.tmp 26) (.tmp 30) rfl w.heap.size _ 1 1 _ rfl ho1 _ A2 _ c2 E1 rfl rfl hbE (by omega) hsz2 ?_; intro A3 c3 w3 ho3 hg3 hat3; have hbel3 := hbel2.grown hg3 hsz2 (fun k hk => (ho1.lt hk).1); have hsz3 : w.heap.size ≤ w3.heap.size := hbel3.size; have hbt3 := hb.below hbel3) | (refine wpList_append_bytes rfl (.tmp 32) (.tmp 33) rfl w.heap.size A3 (1 + E1.length) (c3) _ rfl ho3 _ At n2 ct t rfl Ht.out hbt3 (by omega) hsz3 ?_; intro A4 c4 w4 ho4 hg4 hat4; have hbel4 := hbel3.grown hg4 hsz3 (fun k hk => (ho3.lt hk).1); have hsz4 : w.heap.size ≤ w4.heap.size := hbel4.size) | (have htwo := own_two w4 (UInt8.ofNat d) (UInt8.ofNat (d / 256)) ((d : Int) % 256) ((d : Int) / 256) (bval_ofNat d) (by rw [bval_ofNat]; exact congrArg _ (by omega)); refine wpList_append_bytes rfl (.tmp 38) (.tmp 45) rfl w.heap.size A4 (1 + E1.length + n2) c4 _ rfl (ho4.alloc _) _ _ 2 2 [UInt8.ofNat d, UInt8.ofNat (d / 256)] rfl rfl htwo.bytes (by omega) (by simp; omega) ?_; intro A5 c5 w5 ho5 hg5 hat5; have hbel5 := (hbel4.alloc hsz4 (.cells #[.int .u8 ((d : Int) % 256), .int .u8 ((d : Int) / 256)] 5)).grown hg5 (by simp; omega) (fun k hk => (ho4.lt hk).1); have hsz5 : w.heap.size ≤ w5.heap.size := hbel5.size))
      go_ret
      have hfin := ho5
      rw [HTL.out, HLEN.out] at hfin
      exact ⟨A5, c5, by rw [← HLEN.out]; rfl, hfin, hbel5⟩
    · have hq' : ¬ ((q : Int) < 15) := by omega
      have hone := own_one w (UInt8.ofNat (16 * 15 + 15)) (255) (by rw [bval_small (by omega)]; exact congrArg _ (by omega))
      have hbel1 : Below w.heap.size w (w.alloc (.cells #[.int .u8 (255)] 5)) := (Below.refl _ _).alloc (Nat.le_refl _) _
      have M1 := more_any (n2 - 15) (w.alloc (.cells #[.int .u8 (255)] 5)) (by omega)
      rw [show ((n2 - 15 : Nat) : Int) = (n2 : Int) - 15 from by omega] at M1
      have hE1 : (Lz.ext (n2 - 15)).length ≤ 1000000000000 := by rw [Lz.ext_length]; omega
      have hx1 : Lz.exts n2 = Lz.ext (n2 - 15) := Lz.exts_great (by omega)
      generalize Lz.ext (n2 - 15) = E1 at *
      replace M1 := Lib.hid M1
      have M2 := fun w' => more_any (q - 15) w' (by omega)
      rw [show ((q - 15 : Nat) : Int) = (q : Int) + 4 - 19 from by omega] at M2
      have hE2 : (Lz.ext (q - 15)).length ≤ 1000000000000 := by rw [Lz.ext_length]; omega
      have hx2 : Lz.exts q = Lz.ext (q - 15) := Lz.exts_great (by omega)
      generalize Lz.ext (q - 15) = E2 at *
      replace M2 := Lib.hid M2
      have hres : Lz.part t d (q + 4) = [UInt8.ofNat (16 * 15 + 15)] ++ E1 ++ t ++ [UInt8.ofNat d, UInt8.ofNat (d / 256)] ++ E2 := by
        unfold Lz.part Lz.lits Lz.head
        rw [show q + 4 - 4 = q from by omega, show min q 15 = 15 from by omega, hx2]
        rw [ht, hx1, show min n2 15 = 15 from by omega]
        all_goals simp
      rw [hres]
      have hlen : 1 + E1.length + n2 + 2 + E2.length = ([UInt8.ofNat (16 * 15 + 15)] ++ E1 ++ t ++ [UInt8.ofNat d, UInt8.ofNat (d / 256)] ++ E2).length := by simp [ht]; try omega
      generalize hTL : [UInt8.ofNat (16 * 15 + 15)] ++ E1 ++ t ++ [UInt8.ofNat d, UInt8.ofNat (d / 256)] ++ E2 = TL at *
      generalize hTN : TL.length = TN at *
      have HTL := Lib.hid hTL
      have HTN := Lib.hid hTN
      have HLEN := Lib.hid hlen
      clear hTL hTN hlen
      clear hres hx1 hx2
      have Ht := Lib.hid ht; clear ht
      go_enter Tryz.func49, Tryz.ntmps49
      go_wp2_with fail
      generalize (w.alloc (.cells #[.int .u8 (255)] 5)) = w1 at *
      refine M1.out.mono ?_
      rintro e w2 ⟨A2, c2, rfl, ho2, hb2⟩
      have ho1 := hone.below (hb2.mono (Nat.le_refl _))
      have hbel2 := hbel1.trans (hb2.mono hbel1.size)
      have hsz2 : w.heap.size ≤ w2.heap.size := hbel2.size
      have hbE := ho2.bytes
      clear M1 hone hb2 ho2
      go_wp2_with (at_builtin; first | (refine wpList_append_bytes rfl (.tmp 26) (.tmp 30) rfl w.heap.size _ 1 1 _ rfl ho1 _ A2 _ c2 E1 rfl rfl hbE (by omega) hsz2 ?_; intro A3 c3 w3 ho3 hg3 hat3; have hbel3 := hbel2.grown hg3 hsz2 (fun k hk => (ho1.lt hk).1); have hsz3 : w.heap.size ≤ w3.heap.size := hbel3.size; have hbt3 := hb.below hbel3) | (refine wpList_append_bytes rfl (.tmp 32) (.tmp 33) rfl w.heap.size A3 (1 + E1.length) (c3) _ rfl ho3 _ At n2 ct t rfl Ht.out hbt3 (by omega) hsz3 ?_; intro A4 c4 w4 ho4 hg4 hat4; have hbel4 := hbel3.grown hg4 hsz3 (fun k hk => (ho3.lt hk).1); have hsz4 : w.heap.size ≤ w4.heap.size := hbel4.size) | (have htwo := own_two w4 (UInt8.ofNat d) (UInt8.ofNat (d / 256)) ((d : Int) % 256) ((d : Int) / 256) (bval_ofNat d) (by rw [bval_ofNat]; exact congrArg _ (by omega)); refine wpList_append_bytes rfl (.tmp 38) (.tmp 45) rfl w.heap.size A4 (1 + E1.length + n2) c4 _ rfl (ho4.alloc _) _ _ 2 2 [UInt8.ofNat d, UInt8.ofNat (d / 256)] rfl rfl htwo.bytes (by omega) (by simp; omega) ?_; intro A5 c5 w5 ho5 hg5 hat5; have hbel5 := (hbel4.alloc hsz4 (.cells #[.int .u8 ((d : Int) % 256), .int .u8 ((d : Int) / 256)] 5)).grown hg5 (by simp; omega) (fun k hk => (ho4.lt hk).1); have hsz5 : w.heap.size ≤ w5.heap.size := hbel5.size))
      refine (M2.out w5).mono ?_
      rintro e w6 ⟨A6, c6, rfl, ho6, hb6⟩
      have ho5' := ho5.below hb6
      have hbel6 := hbel5.trans (hb6.mono hsz5)
      have hsz6 : w.heap.size ≤ w6.heap.size := hbel6.size
      have hbE2 := ho6.bytes
      clear M2 ho6 hb6
      go_wp2_with (at_builtin; refine wpList_append_bytes rfl (.tmp 49) (.tmp 52) rfl w.heap.size A5 (1 + E1.length + n2 + 2) c5 _ rfl ho5' _ A6 _ c6 E2 rfl rfl hbE2 (by omega) hsz6 ?_; intro A7 c7 w7 ho7 hg7 hat7)
      have hbel7 := hbel6.grown hg7 hsz6 (fun k hk => (ho5'.lt hk).1)
      go_ret
      have hfin := ho7
      rw [HTL.out, HLEN.out] at hfin
      exact ⟨A7, c7, by rw [← HLEN.out]; rfl, hfin, hbel7⟩
end Go.Proofs.YtoebeibmmclhpaaGreat

/- dragnetref05.Pack -/
namespace Go.Proofs.YtoebeibmmclhpaaGreat
open Go.RowKit
set_option maxRecDepth 100000
set_option maxHeartbeats 4000000 in
theorem lzRefPack_any (A : Option Addr) (n cap B : Nat) (l : List UInt8) (w : World) (hl : l.length = n) (hcap : n ≤ cap) (hm : n ≤ 1000000000) (hb : Bytes w B A l) (hB : B ≤ w.heap.size) :
    Calls Tryz.prog 24 #[.slice A n cap] w (MadeAt w.heap.size w (Lz.packed l).length (Lz.packed l)) := by
  have hXl := Lz.packed_length l
  rw [hl] at hXl
  obtain ⟨X, hX⟩ : ∃ X, X = Lz.packed l := ⟨_, rfl⟩
  rw [← hX] at hXl ⊢
  have HX := Lib.hid (show Lz.pack l (n + 1) 0 0 = X from by rw [hX, Lz.packed, hl])
  have Hl := Lib.hid hl
  have hb := hb.wide hB
  clear hX hl hB
  have HF := Lib.hid fun p w' h4 hbw => before_any A n cap w.heap.size p l w' Hl.out h4 (by omega) hbw
  go_enter Tryz.func24, Tryz.ntmps24
  go_wp2
  generalize hGe : w.heap.size = G at *
  have HGe := Lib.hid hGe; clear hGe
  go_loopw [3, 4, 5] (fun o s i wr => ∃ (m s' p f : Nat) (A' : Option Addr) (c' : Nat) (T : List UInt8), o = .slice A' m c' ∧ s = .int .i64 s' ∧ i = .int .i64 p ∧ s' ≤ p ∧ p ≤ n ∧ n - p < f ∧ T ++ Lz.pack l f s' p = X ∧ Own wr G A' m c' T ∧ Below G w wr ∧ G ≤ wr.heap.size) (fun _ _ i _ => n - (intOf i).toNat)
  case atStart => exact ⟨0, 0, 0, n + 1, none, 0, [], rfl, rfl, rfl, Nat.le_refl _, Nat.zero_le _, by omega, HX.out, own_none2 _ _, Below.refl _ _, Nat.le_of_eq HGe.out.symm⟩
  case round =>
    clear HX
    obtain ⟨m, s, p, f, A', c', T, rfl, rfl, rfl, hsp, hpn, hf, hX, ho, hbel, hGr⟩ := hrel
    obtain ⟨f, rfl⟩ : ∃ f', f = f' + 1 := ⟨f - 1, by omega⟩
    have hTl := ho.len
    have hmX : m ≤ X.length := by rw [← hX, List.length_append, hTl]; omega
    have hbr := hb.below hbel
    rw [Lz.pack] at hX
    by_cases h4 : p + 4 ≤ n
    · rw [if_pos (by rw [Hl.out]; exact h4)] at hX
      have H1 := HF.out p wr h4 hbr
      have h4' : (4 : Int) ≤ (n : Int) - (p : Int) := by omega
      rcases hbf : Lz.before l p p with _ | k
      · rw [hbf] at hX H1
        simp only [lastVal] at H1
        dsimp only at hX
        replace H1 := Lib.hid H1
        have HX := Lib.hid hX
        clear hX hTl hbf hbr
        go_wp2_with fail
        refine H1.out.mono ?_
        rintro e w1 ⟨rfl, hd1⟩
        have ho1 := ho.below (hd1.below _)
        have hbel1 := hbel.trans (hd1.below _)
        have hG1 : G ≤ w1.heap.size := Nat.le_trans hGr (hd1.below 0).size
        clear H1 hd1 ho hbel
        go_wp2
        go_roundw
        case rel => exact ⟨m, s, p + 1, f, A', c', T, rfl, rfl, by go_num, by omega, by omega, by omega, HX.out, ho1, hbel1, hG1⟩
        case measure => simp [intOf]; omega
      · have hlast := Lz.before_last l p
        rw [hbf] at hX H1 hlast
        simp only [lastVal] at H1
        dsimp only at hX
        have hkp := hlast.1
        have hkd := hlast.2.1
        have hN4 := Lz.cpl_four hkp (by rw [Hl.out]; exact h4) hlast.2.2.1
        have hNn := Lz.cpl_le (b := l) hkp (by rw [Hl.out]; exact hpn)
        rw [Hl.out] at hNn
        generalize Lz.cpl (l.drop k) (l.drop p) = N at *
        have hls : ((l.drop s).take (p - s)).length = p - s := by rw [List.length_take, List.length_drop, Hl.out]; omega
        have hpx : m + (Lz.part ((l.drop s).take (p - s)) (p - k) N).length ≤ X.length := by rw [← hX, List.length_append, List.length_append, hTl]; omega
        rw [← List.append_assoc] at hX
        have hrun := run_cut_lh A n cap s p hsp (by omega)
        have H3 := fun wq hbw => refPart_any (cutAt A cap s) (p - s) (cap - s) (p - k) N ((l.drop s).take (p - s)) wq hls hbw (by omega) (by omega) (by omega) hN4.1 (by omega)
        have hcutB := fun wq C (h : Bytes wq C A l) => (h.cut (k := s) (cap := cap) (by rw [Hl.out]; omega) (by rw [Hl.out]; omega)).take (p - s)
        rw [show ((p - k : Nat) : Int) = (p : Int) - (k : Int) from by omega] at H3
        generalize cutAt A cap s = As at *
        generalize (l.drop s).take (p - s) = Y at *
        generalize Lz.part Y (p - k) N = PT at *
        generalize p - s = ls at *
        generalize cap - s = cs at *
        replace H1 := Lib.hid H1
        replace H3 := Lib.hid H3
        have HcB := Lib.hid hcutB
        have HX := Lib.hid hX
        have HN4 := Lib.hid hN4
        have hN4' := hN4.1
        clear hX hTl hbf hbr hlast hls hcutB hN4
        have hkneg : ¬ ((k : Int) < 0) := by omega
        go_wp2_with fail
        refine H1.out.mono ?_
        rintro e w1 ⟨rfl, hd1⟩
        have ho1 := ho.below (hd1.below _)
        have hbel1 := hbel.trans (hd1.below _)
        have hG1 : G ≤ w1.heap.size := Nat.le_trans hGr (hd1.below 0).size
        clear H1 hd1 ho hbel
        go_wp2
        go_loopw [7] (fun t wq => ∃ (j : Nat), 4 ≤ j ∧ j ≤ N ∧ t = .int .i64 j ∧ j + Lz.cpl (l.drop (k + j)) (l.drop (p + j)) = N ∧ Own wq G A' m c' T ∧ Below G w wq ∧ G ≤ wq.heap.size) (fun t _ => N - (intOf t).toNat)
        case atStart => exact ⟨4, by omega, hN4', rfl, HN4.out.2.symm, ho1, hbel1, hG1⟩
        case round =>
          clear ho1 hbel1 hG1
          obtain ⟨j, hj4, hj, rfl, hc, ho, hbel, hGq⟩ := hrel
          have hb1 := hb.below hbel
          have hs := Lz.cpl_step (b := l) (k := k + j) (i := p + j) (by omega)
          by_cases h1 : p + j < n
          · have h1' : p + j < l.length := by have := Hl.out; omega
            have h1'' : (p : Int) + (j : Int) < (n : Int) := by omega
            have d1 : decide ((p : Int) + (j : Int) < (n : Int)) = true := decide_eq_true h1''
            obtain ⟨ad, rfl⟩ := hb1.addr (k := p + j) h1'
            have c0 := hb1.at_ (k := k + j) (by omega)
            have c1 := hb1.at_ (k := p + j) h1'
            have x0 := run_index_at ad n cap (k + j) (by omega)
            have x1 := run_index_at ad n cap (p + j) (by omega)
            rw [Int.natCast_add] at x0 x1
            by_cases h2 : Lz.at_ l (k + j) = Lz.at_ l (p + j)
            · have Hc := Lib.hid hc
              rw [if_pos ⟨h1', h2⟩] at hs
              have Hs := Lib.hid hs
              have hjN : j + 1 ≤ N := by rw [hs] at hc; omega
              rw [h2] at c0
              generalize Lz.at_ l (p + j) = z at *
              generalize ad.add (k + j) = p0 at *
              generalize ad.add (p + j) = p1 at *
              have d2 : ((z : Int) == (z : Int)) = true := by simp
              clear h2 h1' hs hc hb1
              go_wp2_with fail
              go_quiet (fail)
              go_wp2
              go_roundw
              case rel => exact ⟨j + 1, by omega, hjN, by go_num, by rw [← Hc.out, Hs.out]; simp only [Nat.add_assoc]; omega, ho.below ((Drawn.drewN (Drawn.refl _) _).below _), hbel.trans ((Drawn.drewN (Drawn.refl _) _).below _), hGq⟩
              case measure => simp [intOf]; omega
            · rw [if_neg (fun e => h2 e.2)] at hs
              have d2 : (((Lz.at_ l (k + j) : Nat) : Int) == ((Lz.at_ l (p + j) : Nat) : Int)) = false := by simp; omega
              have hjN : j = N := by rw [hs] at hc; omega
              generalize Lz.at_ l (k + j) = z0 at *
              generalize Lz.at_ l (p + j) = z at *
              generalize ad.add (k + j) = p0 at *
              generalize ad.add (p + j) = p1 at *
              clear h2 h1' hs hc hb1
              subst hjN
              go_wp2_with fail
              go_quiet (fail)
              rename_i nq
              have ho2 := ho.below ((Drawn.drewN (Drawn.refl _) nq).below _)
              have hbel2 := hbel.trans ((Drawn.drewN (Drawn.refl _) nq).below _)
              have hGq2 := hGq
              go_wp2_with fail
              refine (H3.out _ ((HcB.out _ _ (hb.below hbel2)).wide hGq2)).mono ?_
              rintro e w3 ⟨A3, c3, rfl, ho3, hb3⟩
              have ho4 := ho2.below hb3
              have hbel3 := hbel2.trans (hb3.mono hGq2)
              have hG3 : G ≤ w3.heap.size := Nat.le_trans hGq2 hb3.size
              have hbP := ho3.bytes
              clear H3 ho2 hbel2 hb3 ho3 HcB
              go_wp2_with (at_builtin; refine wpList_append_bytes rfl (.tmp 43) (.tmp 52) rfl G A' m c' T rfl ho4 _ A3 _ c3 PT rfl rfl hbP (by omega) hG3 ?_; intro A5 c5 w5 ho5 hg5 hat5)
              have hbel5 := hbel3.grown hg5 hG3 (fun k hk => (ho4.lt hk).1)
              have hG5 : G ≤ w5.heap.size := Nat.le_trans hG3 hg5.size
              go_roundw
              case rel => exact ⟨m + PT.length, p + j, p + j, f, A5, c5, T ++ PT, rfl, by go_num, by go_num, Nat.le_refl _, by omega, by omega, HX.out, ho5, hbel5, hG5⟩
              case measure => simp [intOf]; omega
          · rw [if_neg (by have := Hl.out; omega)] at hs
            have hjN : j = N := by rw [hs] at hc; omega
            have d1 : decide ((p : Int) + (j : Int) < (n : Int)) = false := decide_eq_false (by omega)
            have h1'' : ¬ ((p : Int) + (j : Int) < (n : Int)) := by omega
            clear hs hc hb1
            subst hjN
            go_wp2_with fail
            go_quiet (fail)
            rename_i nq
            have ho2 := ho.below ((Drawn.drewN (Drawn.refl _) nq).below _)
            have hbel2 := hbel.trans ((Drawn.drewN (Drawn.refl _) nq).below _)
            have hGq2 := hGq
            go_wp2_with fail
            refine (H3.out _ ((HcB.out _ _ (hb.below hbel2)).wide hGq2)).mono ?_
            rintro e w3 ⟨A3, c3, rfl, ho3, hb3⟩
            have ho4 := ho2.below hb3
            have hbel3 := hbel2.trans (hb3.mono hGq2)
            have hG3 : G ≤ w3.heap.size := Nat.le_trans hGq2 hb3.size
            have hbP := ho3.bytes
            clear H3 ho2 hbel2 hb3 ho3 HcB
            go_wp2_with (at_builtin; refine wpList_append_bytes rfl (.tmp 43) (.tmp 52) rfl G A' m c' T rfl ho4 _ A3 _ c3 PT rfl rfl hbP (by omega) hG3 ?_; intro A5 c5 w5 ho5 hg5 hat5)
            have hbel5 := hbel3.grown hg5 hG3 (fun k hk => (ho4.lt hk).1)
            have hG5 : G ≤ w5.heap.size := Nat.le_trans hG3 hg5.size
            go_roundw
            case rel => exact ⟨m + PT.length, p + j, p + j, f, A5, c5, T ++ PT, rfl, by go_num, by go_num, Nat.le_refl _, by omega, by omega, HX.out, ho5, hbel5, hG5⟩
            case measure => simp [intOf]; omega
    · rw [if_neg (by rw [Hl.out]; exact h4)] at hX
      have h4' : ¬ ((4 : Int) ≤ (n : Int) - (p : Int)) := by omega
      have hls : (l.drop s).length = n - s := by rw [List.length_drop, Hl.out]
      have hrun := run_cut_l A n cap s (by omega)
      have hcut := (hbr.wide hGr).cut (k := s) (cap := cap) (by rw [Hl.out]; omega) (by rw [Hl.out]; omega)
      have H1 := refLast_any (cutAt A cap s) (n - s) (cap - s) (l.drop s) wr hls hcut (by omega)
      have hXX : m + (Lz.lits (l.drop s) 0).length = X.length := by rw [← hX, List.length_append, hTl]
      generalize cutAt A cap s = As at *
      generalize n - s = ls at *
      generalize cap - s = cs at *
      replace H1 := Lib.hid H1
      generalize Lz.lits (l.drop s) 0 = PT at *
      have HXX := Lib.hid hXX
      have HX := Lib.hid hX
      have hmb : m + PT.length ≤ 140737488355328 := by omega
      clear hXX hX hcut hls hTl
      go_wp2_with fail
      refine H1.out.mono ?_
      rintro e w1 ⟨A1, c1, rfl, ho1, hb1⟩
      have ho2 := ho.below hb1
      have hbel1 := hbel.trans (hb1.mono hGr)
      have hG1 : G ≤ w1.heap.size := Nat.le_trans hGr hb1.size
      have hbP := ho1.bytes
      clear H1 ho hbel
      go_wp2_with (at_builtin; refine wpList_append_bytes rfl (.tmp 58) (.tmp 62) rfl G A' m c' T rfl ho2 _ A1 _ c1 PT rfl rfl hbP (by omega) hG1 ?_; intro A4 c4 w4 ho4 hg4 hat4)
      go_ret
      rw [HX.out, HXX.out] at ho4
      exact ⟨A4, c4, by rw [← HXX.out]; rfl, ho4, hbel1.grown hg4 hG1 (fun k hk => (ho2.lt hk).1)⟩
end Go.Proofs.YtoebeibmmclhpaaGreat

/- lz.appendEarlier. -/
namespace Go.Proofs.YtoebeibmmclhpaaGreat
open Go.RowKit
set_option maxRecDepth 100000
set_option maxHeartbeats 1000000 in
theorem appendEarlier_any (A : Option Addr) (n c base d k : Nat) (out : List UInt8) (w : World) (hown : Own w base A n c out) (hbase : base ≤ w.heap.size) (hd : 1 ≤ d) (hdn : d ≤ n) (hn : n + k ≤ 140737488355328) :
    Calls Tryz.prog 90 #[.slice A n c, .int .i64 (d : Int), .int .i64 (k : Int)] w (MadeAt base w (n + k) (Lz.back out d k)) := by
  have hl := hown.len
  obtain ⟨F, hF⟩ : ∃ F, F = n - d := ⟨_, rfl⟩
  have hF' : F = out.length - d := by rw [hl]; exact hF
  have hFi : (n : Int) - (d : Int) = (F : Int) := by omega
  have hFn : n = F + d := by omega
  have HF' := Lib.hid hF'
  have HFn := Lib.hid hFn
  have Hl := Lib.hid hl
  clear hF hF' hFn hl
  go_enter Tryz.func90, Tryz.ntmps90
  go_wp2
  go_loopw [0, 2] (fun s y wr => ∃ (j r m : Nat) (A' : Option Addr) (c' : Nat), (r = 0 ∨ ∃ q, j = d * q) ∧ j + r = k ∧ y = .int .i64 r ∧ s = .slice A' m c' ∧ Own wr base A' m c' (Lz.back out d j) ∧ m = n + j ∧ base ≤ wr.heap.size ∧ Below base w wr) (fun _ y _ => (intOf y).toNat)
  case atStart => exact ⟨0, k, n, A, c, .inr ⟨0, rfl⟩, by omega, rfl, rfl, hown, rfl, hbase, Below.refl _ _⟩
  case round =>
    clear hown
    obtain ⟨j, r, m, A', c', hrq, hjr, rfl, rfl, ho, hm, hsz, hbel⟩ := hrel
    by_cases hr : r = 0
    · subst hr
      have Hm := Lib.hid hm
      have Hjr := Lib.hid hjr
      clear hm hjr hrq
      go_wp2
      go_ret
      have e : j = k := by have := Hjr.out; omega
      have e2 : m = n + k := by have := Hm.out; omega
      rw [e, e2] at ho
      exact ⟨A', c', congrArg (fun x => Ending.returned (.slice A' x c')) e2, ho, hbel⟩
    · obtain ⟨q, hq⟩ : ∃ q, j = d * q := by
        rcases hrq with h | h
        · exact absurd h hr
        · exact h
      have hr' : (0 : Int) < (r : Int) := by omega
      have hmF : (m : Int) - (F : Int) = ((d + j : Nat) : Int) := by have := HFn.out; omega
      have hF' := HF'.out
      have hFn := HFn.out
      have hl := Hl.out
      by_cases hle : r ≤ d + j
      · have hle' : (r : Int) ≤ ((d + j : Nat) : Int) := by omega
        have hle2 : r ≤ d * q + d := by omega
        generalize hE : d + j = E at *
        have HE := Lib.hid hE; clear hE
        have hX : Lz.back out d (j + r) = Lz.back out d j ++ ((Lz.back out d j).drop F).take r := by
          rw [hq, hF']; exact Lz.back_double d q r out hd (by omega) (by rw [Nat.mul_succ]; omega)
        have hbl := Lz.back_length d j out
        have hcap := ho.cap
        have hsrc := (ho.bytes.cut (k := F) (cap := c') (by rw [hbl]; omega) (by rw [hbl]; omega)).take r
        have hsl : (((Lz.back out d j).drop F).take r).length = r := by rw [List.length_take, List.length_drop, hbl]; omega
        have hrun := run_cut_lh A' m c' F (F + r) (by omega) (by omega)
        rw [show F + r - F = r from by omega, Int.natCast_add] at hrun
        generalize cutAt A' c' F = A2 at *
        generalize ((Lz.back out d j).drop F).take r = Y at *
        have HX := Lib.hid hX
        have Hm := Lib.hid hm
        have Hq := Lib.hid hq
        have Hjr := Lib.hid hjr
        have hmb : m + r ≤ 140737488355328 := by omega
        clear hX hm hq hjr hbl hF' hFn hl
        go_wp2_with (at_builtin; refine wpList_append_bytes rfl (.tmp 21) (.tmp 27) rfl base A' m c' _ rfl ho _ A2 r (c' - F) Y rfl hsl hsrc (by omega) hsz ?_; intro A3 c3 w3 ho3 hg3 hat3)
        go_roundw
        case rel =>
          refine ⟨j + r, r - r, m + r, A3, c3, ?_, by have := Hjr.out; omega, ?_, rfl, by rw [HX.out]; exact ho3, by have := Hm.out; omega, Nat.le_trans hsz hg3.size, hbel.grown hg3 hsz (fun k hk => (ho.lt hk).1)⟩
          · exact .inl (by omega)
          · exact congrArg (Value.int .i64) (by omega)
        case measure => simp [intOf]; omega
      · have hle' : ¬ ((r : Int) ≤ ((d + j : Nat) : Int)) := by omega
        generalize hE : d + j = E at *
        have HE := Lib.hid hE; clear hE
        have hEE := HE.out
        have hX : Lz.back out d (j + E) = Lz.back out d j ++ ((Lz.back out d j).drop F).take E := by
          rw [hq, hF']; exact Lz.back_double d q E out hd (by omega) (by rw [Nat.mul_succ]; omega)
        have hbl := Lz.back_length d j out
        have hcap := ho.cap
        have hsrc := (ho.bytes.cut (k := F) (cap := c') (by rw [hbl]; omega) (by rw [hbl]; omega)).take E
        have hsl : (((Lz.back out d j).drop F).take E).length = E := by rw [List.length_take, List.length_drop, hbl]; omega
        have hrun := run_cut_lh A' m c' F (F + E) (by omega) (by omega)
        rw [show F + E - F = E from by omega, Int.natCast_add] at hrun
        generalize cutAt A' c' F = A2 at *
        generalize ((Lz.back out d j).drop F).take E = Y at *
        have HX := Lib.hid hX
        have Hm := Lib.hid hm
        have Hq := Lib.hid hq
        have Hjr := Lib.hid hjr
        have hmb : m + E ≤ 140737488355328 := by omega
        have hr1 : (r : Int) ≤ 140737488355328 := by omega
        have hr2 : 1 ≤ E ∧ E < r := by omega
        have hr3 : (0 : Int) ≤ (r : Int) - (E : Int) := by omega
        clear hX hm hq hjr hbl hF' hFn hl hEE
        go_wp2_with (at_builtin; refine wpList_append_bytes rfl (.tmp 21) (.tmp 27) rfl base A' m c' _ rfl ho _ A2 E (c' - F) Y rfl hsl hsrc (by omega) hsz ?_; intro A3 c3 w3 ho3 hg3 hat3)
        go_roundw
        case rel =>
          refine ⟨j + E, r - E, m + E, A3, c3, ?_, by have := Hjr.out; omega, ?_, rfl, by rw [HX.out]; exact ho3, by have := Hm.out; omega, Nat.le_trans hsz hg3.size, hbel.grown hg3 hsz (fun k hk => (ho.lt hk).1)⟩
          · exact .inr ⟨2 * q + 1, by have h1 := HE.out; have h2 := Hq.out; rw [Nat.mul_add, Nat.mul_one, ← Nat.mul_assoc, Nat.mul_comm d 2, Nat.mul_assoc]; omega⟩
          · exact congrArg (Value.int .i64) (by omega)
        case measure => simp [intOf]; omega
end Go.Proofs.YtoebeibmmclhpaaGreat

/- A scope in which the run jumps to labels: what holds at every jump to each, and a measure that every pass from a label lowers. -/
namespace Go
/-- As Q; by a goto to label l: J l. -/
def Exit.jumps (J : Nat → Act → World → Prop) (Q : Exit → Act → World → Prop) : Exit → Act → World → Prop
  | .goto l, a, w => J l a w
  | e, a, w => Q e a w
section
variable {P : Program} {a : Act} {w : World} {Q : Exit → Act → World → Prop} {J : Nat → Act → World → Prop}
theorem Exit.jumps_mono {J1 J2 : Nat → Act → World → Prop} (h : ∀ l a w, J1 l a w → J2 l a w) : ∀ e a w, Exit.jumps J1 Q e a w → Exit.jumps J2 Q e a w := fun e a w hq => by
  cases e <;> first | exact hq | exact h _ _ _ hq
theorem wp_scope_gotos {c : Code} (J : Nat → Nat → Act → World → Prop)
    (first : c.wp P (Exit.jumps (fun l a w => ∃ n, J l n a w) Q) a w)
    (pass : ∀ l n a w, J l n a w → ∃ rest, findLabel c l = some rest ∧ rest.wp P (Exit.jumps (fun l' a' w' => ∃ n', n' < n ∧ J l' n' a' w') Q) a w) : (Code.scope c).wp P Q a w := by
  intro b k cs
  have hg : ∀ l rest, findLabel c l = some rest → gotoIn l (.inScope c :: k) = some (.code rest :: .inScope c :: k) := fun l rest hf => by simp [gotoIn, hf]
  have key : ∀ n l a w, J l n a w → ∃ rest, findLabel c l = some rest ∧ ∃ e a' w', Q e a' w' ∧ Arrives P (lone (b.at a (.code rest :: .inScope c :: k)) cs w) b k cs e a' w' := by
    intro n
    induction n using Nat.strongRecOn with
    | _ n ih =>
      intro l a w hJ
      obtain ⟨rest, hf, hp⟩ := pass l n a w hJ
      refine ⟨rest, hf, ?_⟩
      obtain ⟨e, a₁, w₁, hq, harr⟩ := hp b (.inScope c :: k) cs
      cases e with
      | normal => exact ⟨.normal, a₁, w₁, hq, Steps.trans harr (.one step_inScope)⟩
      | exit id => exact ⟨.exit id, a₁, w₁, hq, fun k' hk => harr k' (by simp [exitTo, hk])⟩
      | goto l' =>
        obtain ⟨n', hlt, hJ'⟩ := hq
        obtain ⟨rest', hf', e₂, a₂, w₂, hq₂, harr₂⟩ := ih n' hlt l' a₁ w₁ hJ'
        exact ⟨e₂, a₂, w₂, hq₂, .of_steps (harr _ (hg _ _ hf')) harr₂⟩
      | ret => exact ⟨_, a₁, w₁, hq, harr⟩
      | panic ch => exact ⟨_, a₁, w₁, hq, harr⟩
      | outgrown => exact ⟨_, a₁, w₁, hq, harr⟩
  obtain ⟨e, a₁, w₁, hq, harr⟩ := first b (.inScope c :: k) cs
  cases e with
  | normal => exact ⟨.normal, a₁, w₁, hq, .head step_scope (Steps.trans harr (.one step_inScope))⟩
  | exit id => exact ⟨.exit id, a₁, w₁, hq, fun k' hk => .head step_scope (harr k' (by simp [exitTo, hk]))⟩
  | goto l' =>
    obtain ⟨n', hJ'⟩ := hq
    obtain ⟨rest', hf', e₂, a₂, w₂, hq₂, harr₂⟩ := key n' l' a₁ w₁ hJ'
    exact ⟨e₂, a₂, w₂, hq₂, .of_steps (.head step_scope (harr _ (hg _ _ hf'))) harr₂⟩
  | ret => exact ⟨_, a₁, w₁, hq, .of_steps (.one step_scope) harr⟩
  | panic ch => exact ⟨_, a₁, w₁, hq, .of_steps (.one step_scope) harr⟩
  | outgrown => exact ⟨_, a₁, w₁, hq, .of_steps (.one step_scope) harr⟩
theorem wp_scope_gotos2 {c : Code} (J : Nat → Nat → Act → World → Prop)
    (pass : ∀ l n a w, J l n a w → ∃ rest, findLabel c l = some (.seq .skip rest) ∧ rest.wp P (Exit.jumps (fun l' a' w' => ∃ n', n' < n ∧ J l' n' a' w') Q) a w)
    (first : (∀ l n a w, J l n a w → ∃ rest, findLabel c l = some (.seq .skip rest) ∧ rest.wp P (Exit.jumps (fun l' a' w' => ∃ n', n' < n ∧ J l' n' a' w') Q) a w) → c.wp P (Exit.jumps (fun l a w => ∃ n, J l n a w) Q) a w) : (Code.scope c).wp P Q a w :=
  wp_scope_gotos J (first pass) fun l n a w h => by
    obtain ⟨rest, h1, h2⟩ := pass l n a w h
    exact ⟨_, h1, wp_seq (wp_skip h2)⟩
theorem use_pass {c rest : Code} {l : Nat} {Q1 Q2 : Exit → Act → World → Prop} (h : ∃ rest, findLabel c l = some (.seq .skip rest) ∧ rest.wp P Q1 a w) (hf : findLabel c l = some (.seq .skip rest)) (hQ : ∀ e a w, Q1 e a w → Q2 e a w) : rest.wp P Q2 a w := by
  obtain ⟨r, h1, h2⟩ := h
  rw [h1] at hf
  cases hf
  exact Code.wp_mono hQ h2
end
end Go

/- lz.Unpack: from part to part, and to its two failures, by goto. -/
namespace Go.Proofs.YtoebeibmmclhpaaGreat
open Go.RowKit
set_option maxRecDepth 100000
/-- what Unpack answers -/
def UnPost (w : World) (r : List UInt8 × Nat) (e : Ending) (w' : World) : Prop :=
  ∃ A c, e = .returned (.tuple #[.slice A r.1.length c, .int .i64 (r.2 : Int)]) ∧ Own w' w.heap.size A r.1.length c r.1 ∧ Below w.heap.size w w'
theorem list_frame {l : List Value} {n : Nat} (h : l.length = n) : l = (List.range n).map (fun i => l.getD i undef) := by
  apply List.ext_getElem
  · simp [h]
  · intro i h1 h2
    simp [List.getD_eq_getElem?_getD, List.getElem?_eq_getElem h1]
/-- a frame of this function's size -/
def AtBad (a : Act) : Prop := a.tmps.size = 97 ∧ a.defers = []
theorem AtBad.frame {a : Act} (h : AtBad a) : ∃ g : Nat → Value, a = { tmps := #[g 0, g 1, g 2, g 3, g 4, g 5, g 6, g 7, g 8, g 9, g 10, g 11, g 12, g 13, g 14, g 15, g 16, g 17, g 18, g 19, g 20, g 21, g 22, g 23, g 24, g 25, g 26, g 27, g 28, g 29, g 30, g 31, g 32, g 33, g 34, g 35, g 36, g 37, g 38, g 39, g 40, g 41, g 42, g 43, g 44, g 45, g 46, g 47, g 48, g 49, g 50, g 51, g 52, g 53, g 54, g 55, g 56, g 57, g 58, g 59, g 60, g 61, g 62, g 63, g 64, g 65, g 66, g 67, g 68, g 69, g 70, g 71, g 72, g 73, g 74, g 75, g 76, g 77, g 78, g 79, g 80, g 81, g 82, g 83, g 84, g 85, g 86, g 87, g 88, g 89, g 90, g 91, g 92, g 93, g 94, g 95, g 96], defers := [] } ∧ ∀ i, g i = a.tmps.getD i undef := by
  rcases a with ⟨⟨l⟩, d⟩
  obtain ⟨h1, h2⟩ := h
  cases h2
  refine ⟨fun i => l.getD i undef, ?_, fun i => by simp [List.getD_eq_getElem?_getD, Array.getD_eq_getD_getElem?]⟩
  have e := list_frame (l := l) (n := 97) h1
  exact congrArg (fun x : List Value => ({ tmps := ⟨x⟩, defers := [] } : Act)) e
def AtPart (A1 : Option Addr) (n1 c1 : Nat) (most : Int) (A2 : Option Addr) (n2 c2 : Nat) (a : Act) : Prop := AtBad a ∧ a.tmps.getD 0 undef = .slice A1 n1 c1 ∧ a.tmps.getD 1 undef = .int .i64 most ∧ a.tmps.getD 6 undef = .slice A2 n2 c2
theorem AtPart.frame {A1 : Option Addr} {n1 c1 : Nat} {most : Int} {A2 : Option Addr} {n2 c2 : Nat} {a : Act} (h : AtPart A1 n1 c1 most A2 n2 c2 a) : ∃ g : Nat → Value, a = { tmps := #[.slice A1 n1 c1, .int .i64 most, g 2, g 3, g 4, g 5, .slice A2 n2 c2, g 7, g 8, g 9, g 10, g 11, g 12, g 13, g 14, g 15, g 16, g 17, g 18, g 19, g 20, g 21, g 22, g 23, g 24, g 25, g 26, g 27, g 28, g 29, g 30, g 31, g 32, g 33, g 34, g 35, g 36, g 37, g 38, g 39, g 40, g 41, g 42, g 43, g 44, g 45, g 46, g 47, g 48, g 49, g 50, g 51, g 52, g 53, g 54, g 55, g 56, g 57, g 58, g 59, g 60, g 61, g 62, g 63, g 64, g 65, g 66, g 67, g 68, g 69, g 70, g 71, g 72, g 73, g 74, g 75, g 76, g 77, g 78, g 79, g 80, g 81, g 82, g 83, g 84, g 85, g 86, g 87, g 88, g 89, g 90, g 91, g 92, g 93, g 94, g 95, g 96], defers := [] } := by
  obtain ⟨h0, h1, h2, h3⟩ := h
  obtain ⟨g, e, hg⟩ := h0.frame
  refine ⟨g, ?_⟩
  rw [← h1, ← h2, ← h3, ← hg, ← hg, ← hg]
  exact e
def AtLast (m : Nat) (A2 : Option Addr) (n2 c2 : Nat) (a : Act) : Prop := AtBad a ∧ a.tmps.getD 6 undef = .slice A2 n2 c2 ∧ a.tmps.getD 8 undef = .int .i64 (m : Int)
theorem AtLast.frame {m : Nat} {A2 : Option Addr} {n2 c2 : Nat} {a : Act} (h : AtLast m A2 n2 c2 a) : ∃ g : Nat → Value, a = { tmps := #[g 0, g 1, g 2, g 3, g 4, g 5, .slice A2 n2 c2, g 7, .int .i64 (m : Int), g 9, g 10, g 11, g 12, g 13, g 14, g 15, g 16, g 17, g 18, g 19, g 20, g 21, g 22, g 23, g 24, g 25, g 26, g 27, g 28, g 29, g 30, g 31, g 32, g 33, g 34, g 35, g 36, g 37, g 38, g 39, g 40, g 41, g 42, g 43, g 44, g 45, g 46, g 47, g 48, g 49, g 50, g 51, g 52, g 53, g 54, g 55, g 56, g 57, g 58, g 59, g 60, g 61, g 62, g 63, g 64, g 65, g 66, g 67, g 68, g 69, g 70, g 71, g 72, g 73, g 74, g 75, g 76, g 77, g 78, g 79, g 80, g 81, g 82, g 83, g 84, g 85, g 86, g 87, g 88, g 89, g 90, g 91, g 92, g 93, g 94, g 95, g 96], defers := [] } := by
  obtain ⟨h0, h1, h2⟩ := h
  obtain ⟨g, e, hg⟩ := h0.frame
  refine ⟨g, ?_⟩
  rw [← h1, ← h2, ← hg, ← hg]
  exact e
/-- what holds at each label -/
def UnJ (w : World) (B : Nat) (most : Nat) (R : List UInt8 × Nat) (l n : Nat) (a : Act) (w' : World) : Prop :=
  (l = 1 ∧ ∃ A1 n1 c1 b A2 n2 c2 out f, AtPart A1 n1 c1 (most : Int) A2 n2 c2 a ∧ b.length = n1 ∧ n1 ≤ c1 ∧ n1 ≤ 140737488355328 ∧ Bytes w' B A1 b ∧ Own w' w.heap.size A2 n2 c2 out ∧ n2 ≤ most ∧ n1 < f ∧ Lz.run most f b out = R ∧ Below w.heap.size w w' ∧ n = n1 + 2) ∨
  (l = 3 ∧ ∃ m A2 n2 c2 out, AtLast m A2 n2 c2 a ∧ Own w' w.heap.size A2 n2 c2 out ∧ (if m = 0 then (out, 0) else ([], 2)) = R ∧ Below w.heap.size w w' ∧ n = 1) ∨
  (l = 0 ∧ AtBad a ∧ R = ([], 2) ∧ Below w.heap.size w w' ∧ n = 0) ∨
  (l = 2 ∧ AtBad a ∧ R = ([], 5) ∧ Below w.heap.size w w' ∧ n = 0)
theorem UnJ.bad {w : World} {B most : Nat} {R : List UInt8 × Nat} {n : Nat} {a : Act} {w' : World} (ha : AtBad a) (hR : R = ([], 2)) (hb : Below w.heap.size w w') (hn : 0 < n) : ∃ n', n' < n ∧ UnJ w B most R 0 n' a w' := ⟨0, hn, .inr (.inr (.inl ⟨rfl, ha, hR, hb, rfl⟩))⟩
theorem UnJ.long {w : World} {B most : Nat} {R : List UInt8 × Nat} {n : Nat} {a : Act} {w' : World} (ha : AtBad a) (hR : R = ([], 5)) (hb : Below w.heap.size w w') (hn : 0 < n) : ∃ n', n' < n ∧ UnJ w B most R 2 n' a w' := ⟨0, hn, .inr (.inr (.inr ⟨rfl, ha, hR, hb, rfl⟩))⟩
theorem UnJ.last {w : World} {B most : Nat} {R : List UInt8 × Nat} {n : Nat} {a : Act} {w' : World} {m n2 c2 : Nat} {A2 : Option Addr} {out : List UInt8} (ha : AtLast m A2 n2 c2 a) (ho : Own w' w.heap.size A2 n2 c2 out) (hR : (if m = 0 then (out, 0) else ([], 2)) = R) (hb : Below w.heap.size w w') (hn : 1 < n) : ∃ n', n' < n ∧ UnJ w B most R 3 n' a w' := ⟨1, hn, .inr (.inl ⟨rfl, m, A2, n2, c2, out, ha, ho, hR, hb, rfl⟩)⟩
theorem nibbles (x : UInt8) : ∃ a m : Nat, a ≤ 15 ∧ m ≤ 15 ∧ x.toNat / 16 = a ∧ x.toNat % 16 = m ∧ ((x.toNat : Nat) : Int) / 16 = (a : Int) ∧ bits .and .u8 ((x.toNat : Nat) : Int) 15 = (m : Int) := by
  have hx := x.toNat_lt
  refine ⟨x.toNat / 16, x.toNat % 16, by omega, by omega, rfl, rfl, by omega, ?_⟩
  rw [show (15 : Int) = ((15 : Nat) : Int) from rfl, u8_and_nat _ _ (by omega) (by omega), nat_mask4]
set_option maxHeartbeats 4000000 in
theorem unpack_pos (A : Option Addr) (n cap B : Nat) (l : List UInt8) (most : Nat) (w : World) (hl : l.length = n) (hcap : n ≤ cap) (hm : n ≤ 140737488355328) (hmost : most ≤ 100000000) (hb : Bytes w B A l) (hB : B ≤ w.heap.size) :
    Calls Tryz.prog 59 #[.slice A n cap, .int .i64 (most : Int)] w (UnPost w (Lz.run most (n + 1) l [])) := by
  generalize hR : Lz.run most (n + 1) l [] = R
  have HR := Lib.hid hR; clear hR
  have Hl := Lib.hid hl; clear hl
  go_enter Tryz.func59, Tryz.ntmps59
  go_wp2
  refine wp_scope_gotos2 (UnJ w B most R) ?_ ?_
  · -- from a label on
    clear HR Hl hb hcap hm
    rintro L nn a w1 (⟨rfl, A1, n1, c1, b, A2, n2, c2, out, f, ha, hl1, hc1, hm1, hb1, ho1, hn2, hf, hR, hbel, rfl⟩ | ⟨rfl, m, A2, n2, c2, out, ha, ho1, hR, hbel, rfl⟩ | ⟨rfl, ha, hR, hbel, rfl⟩ | ⟨rfl, ha, hR, hbel, rfl⟩)
    · refine ⟨_, rfl, ?_⟩
      obtain ⟨g, rfl⟩ := ha.frame
      clear ha
      obtain ⟨f, rfl⟩ : ∃ f', f = f' + 1 := ⟨f - 1, by omega⟩
      have hlo := ho1.len
      rcases b with _ | ⟨x, b1⟩
      · obtain rfl : 0 = n1 := by simpa using hl1
        have HR := Lib.hid hR.symm; clear hR
        clear hb1 ho1 hlo
        go_wp2
        go_step3
        exact UnJ.bad ⟨rfl, rfl⟩ HR.out hbel (by omega)
      · rw [Lz.run_cons] at hR
        obtain ⟨k, rfl⟩ : ∃ k, n1 = k + 1 := ⟨n1 - 1, by simp at hl1; omega⟩
        have hlb : b1.length = k := by simpa using hl1
        obtain ⟨ad, rfl⟩ := hb1.addr (k := 0) (by simp)
        have hcell := hb1.at_ (k := 0) (by simp)
        rw [show Lz.at_ (x :: b1) 0 = x.toNat from rfl] at hcell
        have hidx := run_index_at ad (k + 1) c1 0 (by omega)
        rw [Int.natCast_zero] at hidx
        have hcut := hb1.cut (k := 1) (cap := c1) (by simp) (by omega)
        rw [List.drop_succ_cons, List.drop_zero] at hcut
        have hrun := run_cut_l (some ad) (k + 1) c1 1 (by omega)
        rw [Int.natCast_one, show k + 1 - 1 = k from rfl] at hrun
        obtain ⟨h, m, hh, hm15, e1, e2, hdiv, hand⟩ := nibbles x
        rw [e1, e2, hlo] at hR
        have hx256 := x.toNat_lt
        generalize x.toNat = X at *
        generalize ad.add 0 = p0 at *
        generalize cutAt (some ad) c1 1 = A1' at *
        clear hb1 e1 e2 hl1
        have hk0 : ¬ (((k + 1 : Nat) : Int) = 0) := by omega
        have HR := Lib.hid hR; clear hR
        have HB := Lib.hid hcut; clear hcut
        go_wp2_with fail
        go_quiet (fail)
        rename_i nq
        clear hcell hidx hrun hdiv hand hx256 hk0
        have hd1 : Drawn w1 (w1.drewN nq) := ⟨nq, rfl⟩
        have hbel1 := hbel.trans (hd1.below w.heap.size)
        have ho2 := ho1.below (hd1.below w1.heap.size)
        have hsz1 : w.heap.size ≤ (w1.drewN nq).heap.size := hbel1.size
        have C1 := Lib.hid (takeCount_any A1' k (c1 - 1) B h b1 (w1.drewN nq) hlb (by omega) hh (by omega) (bytes_drawn HB.out hd1))
        clear hbel ho1 HB hd1
        generalize w1.drewN nq = w2 at *
        have hck := fun c b2 => Lz.takeCount_length (b := b1) (r := b2) (h := h) (c := c) hh
        rw [hlb] at hck
        rcases hT : Lz.takeCount h b1 with _ | ⟨c, b2⟩
        · have hR := HR.out
          rw [hT] at hR
          have HR' := Lib.hid hR.symm; clear hR HR
          rw [hT] at C1
          clear hck hT hlb
          go_wp2_with fail
          refine C1.out.mono ?_
          rintro e w3 ⟨rfl, hd3⟩
          clear C1
          go_wp2
          go_step3
          exact UnJ.bad ⟨rfl, rfl⟩ HR'.out (hbel1.trans (hd3.below _)) (by omega)
        · have hR := HR.out
          rw [hT] at hR C1
          dsimp only at hR
          obtain ⟨hl2, _, hc63⟩ := hck c b2 hT
          clear HR hck hT
          obtain ⟨k2, hk2⟩ : ∃ k2, b2.length = k2 := ⟨_, rfl⟩
          go_wp2_with fail
          refine C1.out.mono ?_
          rintro e w3 ⟨⟨A3, c3, rfl, hb3, hcap3⟩, hd3⟩
          rw [hk2] at hcap3 hR hl2 ⊢
          have Hk2 := Lib.hid hk2; clear hk2
          have hbel3 := hbel1.trans (hd3.below _)
          have ho3 := ho2.below (hd3.below _)
          have hsz3 : w.heap.size ≤ w3.heap.size := hbel3.size
          clear C1 hbel1 ho2 hd3 hsz1
          by_cases h1 : most < n2 + c
          · rw [if_pos h1] at hR
            have HR' := Lib.hid hR.symm; clear hR
            have h1' : (most : Int) - (n2 : Int) < (c : Int) := by omega
            clear hb3 ho3
            go_wp2
            go_step3
            exact UnJ.long ⟨rfl, rfl⟩ HR'.out hbel3 (by omega)
          · rw [if_neg h1] at hR
            have h1' : ¬ ((most : Int) - (n2 : Int) < (c : Int)) := by omega
            by_cases h2 : k2 < c
            · rw [if_pos h2] at hR
              have HR' := Lib.hid hR.symm; clear hR
              have h2' : (k2 : Int) < (c : Int) := by omega
              clear hb3 ho3
              go_wp2
              go_step3
              exact UnJ.bad ⟨rfl, rfl⟩ HR'.out hbel3 (by omega)
            · rw [if_neg h2] at hR
              have h2' : ¬ ((k2 : Int) < (c : Int)) := by omega
              have hsrc := hb3.take c
              have hlsrc : (b2.take c).length = c := by rw [List.length_take, Hk2.out]; omega
              have hrest := hb3.cut (k := c) (cap := c3) (by rw [Hk2.out]; omega) (by rw [Hk2.out]; omega)
              have hlrest : (b2.drop c).length = k2 - c := by rw [List.length_drop, Hk2.out]
              have hcr : k2 - c ≤ c3 - c := by omega
              have r1 := run_cut_h A3 k2 c3 c (by omega)
              have r2 := run_cut_l A3 k2 c3 c (by omega)
              have hc0 : (0 : Int) ≤ (c : Int) := by omega
              have hc1 : (c : Int) ≤ (k2 : Int) := by omega
              have hc2 : (c : Int) ≤ (c3 : Int) := by omega
              have hk4 : k2 - c ≤ k := by omega
              generalize k2 - c = k4 at *
              generalize c3 - c = c4 at *
              generalize cutAt A3 c3 c = A4 at *
              clear hb3
              generalize hT4 : b2.drop c = T4 at *
              generalize hT3 : b2.take c = T3 at *
              clear hT4 hT3
              have HT3 := Lib.hid hlsrc
              have HT4 := Lib.hid hlrest
              have HREST := Lib.hid hrest
              have HR' := Lib.hid hR
              clear hlsrc hlrest hrest hR
              go_wp2_with fail
              go_region_held3 (fun _ => True) (trivial) (first | (refine step_append_bytes (by rfl) (.tmp 48) (.tmp 51) (by rfl) w.heap.size A2 n2 c2 out (by rfl) (by exact ho3) B A3 c c3 T3 (by rfl) (by exact HT3.out) (by exact hsrc) (by omega) (by exact hsz3) ?_; intro A5 c5 w5 ho5 hg5 hat5))
              have hb35 : Below w.heap.size w3 w5 := ((Below.refl _ w3).drew).grown hg5 hsz3 (fun k hk => (ho3.lt hk).1)
              have hbel5 := hbel3.trans hb35
              have hrest5 := HREST.out.below (hb35.mono hB)
              have hlo5 := ho5.len
              clear hg5 hat5 hb35 HREST hsrc ho3 hbel3 r1 r2 Hk2 HT3 h1' h2' hc0 hc1 hc2
              rcases T4 with _ | ⟨x, _ | ⟨y, b3⟩⟩
              · obtain rfl : 0 = k4 := HT4.out
                clear hrest5
                go_wp2
                go_step3
                exact UnJ.last ⟨⟨rfl, rfl⟩, rfl, rfl⟩ ho5 HR'.out hbel5 (by omega)
              · obtain rfl : 1 = k4 := HT4.out
                have C2 := Lib.hid (takeDistance_any A4 1 c4 B [x] w5 rfl hcr (by omega) hrest5)
                have HR2 := Lib.hid HR'.out.symm
                clear hrest5 HR' ho5
                go_wp2_with fail
                refine C2.out.mono ?_
                rintro e w6 ⟨h6, hd6⟩
                rw [if_pos (by simp)] at h6
                subst h6
                clear C2
                go_wp2
                go_step3
                exact UnJ.bad ⟨rfl, rfl⟩ HR2.out (hbel5.trans (hd6.below _)) (by omega)
              · obtain ⟨k6, hk6⟩ : ∃ k6, b3.length = k6 := ⟨_, rfl⟩
                obtain rfl : k6 + 2 = k4 := by rw [← hk6]; exact HT4.out
                have hR := HR'.out
                dsimp only at hR
                have C2 := takeDistance_any A4 (k6 + 2) c4 B (x :: y :: b3) w5 (by simp [hk6]) hcr (by omega) hrest5
                unfold DistPost at C2
                have hlt2 : ¬ (x :: y :: b3).length < 2 := by simp
                simp only [if_neg hlt2] at C2
                have e0 : Lz.at_ (x :: y :: b3) 0 = x.toNat := rfl
                have e1 : Lz.at_ (x :: y :: b3) 1 = y.toNat := rfl
                have e2 : (x :: y :: b3).length - 2 = k6 := by simp [hk6]
                have e3 : (x :: y :: b3).drop 2 = b3 := rfl
                rw [e0, e1, e2, e3] at C2
                clear hlt2
                have hx := x.toNat_lt
                have hy := y.toNat_lt
                have hd64 : x.toNat + 256 * y.toNat ≤ 65535 := by omega
                generalize x.toNat + 256 * y.toNat = d at *
                have Hk6 := Lib.hid hk6
                replace C2 := Lib.hid C2
                clear hrest5 HR' e0 e1 e2 e3 hx hy hk6 HT4
                have hk40 : ¬ (((k6 + 2 : Nat) : Int) = 0) := by omega
                go_wp2_with fail
                refine C2.out.mono ?_
                rintro e w6 ⟨⟨A6, c6, rfl, hb6, hc6⟩, hd6⟩
                have hbel6 := hbel5.trans (hd6.below _)
                have ho6 := ho5.below (hd6.below _)
                clear C2 ho5 hbel5 hd6
                by_cases hd0 : d = 0 ∨ n2 + c < d
                · rw [if_pos hd0] at hR
                  have HR2 := Lib.hid hR.symm
                  clear hR hb6 ho6
                  by_cases hdz : d = 0
                  · have hdd : decide (0 < d) = false := by simp [hdz]
                    clear hd0 hdz
                    rw [hdd]
                    go_wp2
                    go_step3
                    exact UnJ.bad ⟨rfl, rfl⟩ HR2.out hbel6 (by omega)
                  · have hdd : decide (0 < d) = true := by simp; omega
                    have hdl : (n2 : Int) + (c : Int) < (d : Int) := by omega
                    clear hd0 hdz
                    rw [hdd]
                    go_wp2
                    go_step3
                    exact UnJ.bad ⟨rfl, rfl⟩ HR2.out hbel6 (by omega)
                · rw [if_neg hd0] at hR
                  have hdd : decide (0 < d) = true := by simp; omega
                  have hdl : ¬ ((n2 : Int) + (c : Int) < (d : Int)) := by omega
                  have hd1 : 1 ≤ d := by omega
                  have hd2 : d ≤ n2 + c := by omega
                  rw [hdd]
                  clear hd0 hdd
                  have hsz6 : w.heap.size ≤ w6.heap.size := hbel6.size
                  have C3 := Lib.hid (takeCount_any A6 k6 c6 B m b3 w6 Hk6.out hc6 hm15 (by omega) hb6)
                  have hck := fun c b2 => Lz.takeCount_length (b := b3) (r := b2) (h := m) (c := c) hm15
                  rw [Hk6.out] at hck
                  clear hb6
                  rcases hT : Lz.takeCount m b3 with _ | ⟨c7, b4⟩
                  · rw [hT] at hR C3
                    have HR2 := Lib.hid hR.symm
                    clear hR hck hT
                    go_wp2_with fail
                    refine C3.out.mono ?_
                    rintro e w7 ⟨rfl, hd7⟩
                    clear C3
                    go_wp2
                    go_step3
                    exact UnJ.bad ⟨rfl, rfl⟩ HR2.out (hbel6.trans (hd7.below _)) (by omega)
                  · rw [hT] at hR C3
                    dsimp only at hR
                    obtain ⟨hl7, _, hc63'⟩ := hck c7 b4 hT
                    clear hck hT
                    obtain ⟨k7, hk7⟩ : ∃ k7, b4.length = k7 := ⟨_, rfl⟩
                    go_wp2_with fail
                    refine C3.out.mono ?_
                    rintro e w7 ⟨⟨A7, c7', rfl, hb7, hcap7⟩, hd7⟩
                    rw [hk7] at hcap7 hl7 ⊢
                    have Hk7 := Lib.hid hk7; clear hk7
                    have hbel7 := hbel6.trans (hd7.below _)
                    have ho7 := ho6.below (hd7.below _)
                    have hsz7 : w.heap.size ≤ w7.heap.size := hbel7.size
                    clear C3 ho6 hbel6 hd7
                    by_cases h3 : most < n2 + c + (c7 + 4)
                    · rw [if_pos h3] at hR
                      have HR2 := Lib.hid hR.symm
                      have h3' : (most : Int) - ((n2 : Int) + (c : Int)) < (c7 : Int) + 4 := by omega
                      clear hR hb7 ho7
                      go_wp2
                      go_step3
                      exact UnJ.long ⟨rfl, rfl⟩ HR2.out hbel7 (by omega)
                    · rw [if_neg h3] at hR
                      have h3' : ¬ ((most : Int) - ((n2 : Int) + (c : Int)) < (c7 : Int) + 4) := by omega
                      have C4 := appendEarlier_any A5 (n2 + c) c5 w.heap.size d (c7 + 4) (out ++ T3) w7 ho7 hsz7 hd1 hd2 (by omega)
                      rw [show ((c7 + 4 : Nat) : Int) = (c7 : Int) + 4 from by omega] at C4
                      replace C4 := Lib.hid C4
                      have HR2 := Lib.hid hR
                      clear hR ho7
                      go_wp2_with fail
                      refine C4.out.mono ?_
                      rintro e w8 ⟨A8, c8, rfl, ho8, hb8⟩
                      have hbel8 := hbel7.trans hb8
                      have hb9 := hb7.below (hb8.mono hB)
                      clear C4 hb7
                      go_wp2
                      go_step3
                      exact ⟨k7 + 2, by omega, .inl ⟨rfl, A7, k7, c7', b4, A8, n2 + c + (c7 + 4), c8, _, f, ⟨⟨rfl, rfl⟩, rfl, rfl, rfl⟩, Hk7.out, hcap7, by omega, hb9, ho8, by omega, by omega, HR2.out, hbel8, rfl⟩⟩
    · refine ⟨_, rfl, ?_⟩
      obtain ⟨g, rfl⟩ := ha.frame
      have HR := Lib.hid hR; clear hR
      by_cases h0 : m = 0
      · have h0' : ((m : Int) != 0) = false := by simp; omega
        have h0'' : (m : Int) = 0 := by omega
        go_wp2
        go_ret2
        have e := HR.out
        rw [if_pos h0] at e
        have hlen := ho1.len
        subst e
        exact ⟨A2, c2, by rw [hlen]; rfl, by rw [hlen]; exact ho1, hbel⟩
      · have h0' : ((m : Int) != 0) = true := by simp; omega
        have h0'' : ¬ ((m : Int) = 0) := by omega
        have e := HR.out
        rw [if_neg h0] at e
        have E := Lib.hid e.symm; clear e
        go_wp2
        go_step3
        exact UnJ.bad ⟨rfl, rfl⟩ E.out hbel (by omega)
    · refine ⟨_, rfl, ?_⟩
      obtain ⟨g, rfl, hg⟩ := ha.frame
      clear hg ha
      have HR := Lib.hid hR; clear hR
      go_wp2
      go_ret2
      rw [HR.out]
      exact ⟨none, 0, rfl, own_none _ _, hbel⟩
    · refine ⟨_, rfl, ?_⟩
      obtain ⟨g, rfl, hg⟩ := ha.frame
      clear hg ha
      have HR := Lib.hid hR; clear hR
      go_wp2
      go_ret2
      rw [HR.out]
      exact ⟨none, 0, rfl, own_none _ _, hbel⟩
  · intro Pass
    have PASS := Lib.hid Pass; clear Pass
    go_wp2
    go_step3
    rename_i hK
    refine hK _ _ ?_
    refine use_pass (PASS.out 1 (n + 2) _ _ (.inl ⟨rfl, A, n, cap, l, none, 0, 0, [], n + 1, ⟨⟨rfl, rfl⟩, rfl, rfl, rfl⟩, Hl.out, hcap, hm, hb, own_none _ _, Nat.zero_le _, Nat.lt_succ_self _, HR.out, Below.refl _ _, rfl⟩)) rfl ?_
    exact Exit.jumps_mono (fun l a w ⟨n', _, h⟩ => ⟨n', h⟩)
end Go.Proofs.YtoebeibmmclhpaaGreat

/- lz.Unpack for every most. -/
namespace Go.Proofs.YtoebeibmmclhpaaGreat
open Go.RowKit
set_option maxRecDepth 100000
set_option maxHeartbeats 1000000 in
theorem lzUnpack_any (A : Option Addr) (n cap B : Nat) (l : List UInt8) (most : Int) (w : World) (hl : l.length = n) (hcap : n ≤ cap) (hm : n ≤ 140737488355328) (hmost : most ≤ 100000000) (hb : Bytes w B A l) (hB : B ≤ w.heap.size) :
    Calls Tryz.prog 59 #[.slice A n cap, .int .i64 most] w (UnPost w (Lz.unpack l most)) := by
  by_cases h0 : most < 0
  · have e : Lz.unpack l most = ([], 1) := by unfold Lz.unpack; rw [if_pos h0]
    rw [e]
    clear hb hl e
    go_enter Tryz.func59, Tryz.ntmps59
    go_wp2
    go_step3
    go_wp2
    go_ret2
    exact ⟨none, 0, rfl, own_none _ _, Below.refl _ _⟩
  · obtain ⟨m, rfl⟩ : ∃ m : Nat, most = (m : Int) := ⟨most.toNat, by omega⟩
    have e : Lz.unpack l (m : Int) = Lz.run m (n + 1) l [] := by unfold Lz.unpack; rw [if_neg h0, hl]; rfl
    rw [e]
    exact unpack_pos A n cap B l m w hl hcap hm (by omega) hb hB
end Go.Proofs.YtoebeibmmclhpaaGreat

/- dragnetref05.Unpack -/
namespace Go.Proofs.YtoebeibmmclhpaaGreat
open Go.RowKit
set_option maxRecDepth 100000
theorem run_index_own2 (g m c i : Nat) (hi : i < m) (u : World) : (Instr.indexAt 22 (.slice (some ⟨g, 0, none⟩) m c) (.int .i64 (i : Int))).run Tryz.prog u = .ok (.pointer (some ⟨g, i, none⟩)) u := by
  obtain ⟨i0, hi0, hz0, hz1, hz2⟩ := info_parts byte_info
  have he : Tryz.prog.elem 22 = 5 := by kernel_rfl
  rw [run_indexAt_slice _ _ _ _ _ _ _ Tryz.underlying22, if_pos ⟨by omega, by omega⟩, he]
  by_cases h0 : i = 0 <;> simp [sizeOf, typeInfo, hi0, hz1, Addr.add, h0]
theorem Bytes.idx {w : World} {B : Nat} {A : Option Addr} {l : List UInt8} (h : Bytes w B A l) {k : Nat} (hk : k < l.length) :
    ∃ p : Addr, (∀ w', Below B w w' → w'.cell? p = some (.int .u8 (Lz.at_ l k : Int))) ∧ ∀ n c u, k < n → (Instr.indexAt 22 (.slice A n c) (.int .i64 (k : Int))).run Tryz.prog u = .ok (.pointer (some p)) u := by
  obtain ⟨ad, rfl⟩ := h.addr hk
  exact ⟨ad.add k, fun w' hb => (h.below hb).at_ hk, fun n c u hn => run_index_at ad n c k hn u⟩
theorem Own.cellD {w : World} {base g : Nat} {n c : Nat} {l : List UInt8} (h : Own w base (some ⟨g, 0, none⟩) n c l) {k : Nat} (hk : k < l.length) : w.cell? ⟨g, k, none⟩ = some (.int .u8 ((l.getD k 0).toNat : Int)) := by
  rw [h.cell hk]
  simp [List.getD_eq_getElem?_getD, List.getElem?_eq_getElem hk]
set_option maxRecDepth 100000 in
set_option maxHeartbeats 8000000 in
theorem refUnpack_pos (A : Option Addr) (n cap B : Nat) (l : List UInt8) (most : Nat) (w : World) (hl : l.length = n) (hcap : n ≤ cap) (hm : n ≤ 140737488355328) (hmost : most ≤ 100000000) (hb : Bytes w B A l) (hB : B ≤ w.heap.size) :
    Calls Tryz.prog 64 #[.slice A n cap, .int .i64 (most : Int)] w (UnPost w (Lz.run most (n + 1) l [])) := by
  generalize hR : Lz.run most (n + 1) l [] = R
  have HR0 := Lib.hid hR; clear hR
  have Hl := Lib.hid hl; clear hl
  have hb := hb.wide hB
  clear hB
  have hmost0 : ¬ ((most : Int) < 0) := by omega
  go_enter Tryz.func64, Tryz.ntmps64
  go_wp2
  generalize hGe : w.heap.size = G at *
  have HGe := Lib.hid hGe; clear hGe
  go_loopw [6, 7] (fun o i wr => ∃ (p f m : Nat) (A' : Option Addr) (c' : Nat) (out : List UInt8), o = .slice A' m c' ∧ i = .int .i64 p ∧ p ≤ n ∧ n - p < f ∧ Lz.run most f (l.drop p) out = R ∧ m ≤ most ∧ Own wr G A' m c' out ∧ Below G w wr ∧ G ≤ wr.heap.size) (fun _ i _ => n - (intOf i).toNat)
  case atStart => exact ⟨0, n + 1, 0, none, 0, [], rfl, rfl, Nat.zero_le _, by omega, HR0.out, Nat.zero_le _, own_none2 _ _, Below.refl _ _, Nat.le_of_eq HGe.out.symm⟩
  case round =>
    clear HR0
    obtain ⟨p, f, m, A', c', out, rfl, rfl, hpn, hf, hR, hmm, ho, hbel, hGr⟩ := hrel
    obtain ⟨f, rfl⟩ : ∃ f', f = f' + 1 := ⟨f - 1, by omega⟩
    have hlo := ho.len
    by_cases hp : p < n
    · have hpl : p < l.length := by rw [Hl.out]; exact hp
      rw [List.drop_eq_getElem_cons hpl, Lz.run_cons, hlo] at hR
      obtain ⟨p0, hc0, hi0⟩ := hb.idx hpl
      have hcell := hc0 _ hbel
      rw [Lz.at_get hpl] at hcell
      have hidx := fun u => hi0 n cap u hp
      clear hc0 hi0
      obtain ⟨h, mm, hh, hmm15, e1, e2, hdiv, _⟩ := nibbles l[p]
      rw [e1, e2] at hR
      have hmod : ((l[p].toNat : Nat) : Int) % 16 = (mm : Int) := by omega
      have hx256 := l[p].toNat_lt
      generalize l[p].toNat = X at *
      have hp' : ¬ ((n : Int) ≤ (p : Int)) := by omega
      have hHR := Lib.hid hR
      clear hR hlo e1 e2 hpl
      go_wp2_with fail
      go_quiet (fail)
      rename_i nq
      replace ho := ho.below ((Drawn.drewN (Drawn.refl _) nq).below _)
      replace hbel := hbel.trans ((Drawn.drewN (Drawn.refl _) nq).below _)
      replace hGr : G ≤ (wr.drewN nq).heap.size := hGr
      rw [hmod]
      clear hcell hidx hdiv hmod hx256
      generalize wr.drewN nq = wr at *
      have hR := hHR.out
      clear hHR
      by_cases h15 : h = 15
      · subst h15
        have e : Lz.takeCount 15 (l.drop (p + 1)) = Lz.takeExt 15 (l.drop (p + 1)) := rfl
        rw [e] at hR
        obtain ⟨p1, hp1⟩ : ∃ p1, p1 = p + 1 := ⟨_, rfl⟩
        have hp1i : (p : Int) + 1 = (p1 : Int) := by omega
        have hp1n : p1 ≤ n := by omega
        have hp1p : p < p1 := by omega
        rw [← hp1] at hR
        clear hp1 e
        have S1 := sum_any A n cap G p1 l wr Hl.out hp1n (by omega) (hb.below hbel)
        have hck := fun c b2 => Lz.takeExt_length (l.drop p1) 15 c b2
        have hdl : (l.drop p1).length = n - p1 := by rw [List.length_drop, Hl.out]
        rw [hdl] at hck
        rcases hT : Lz.takeExt 15 (l.drop p1) with _ | ⟨c, b2⟩
        · rw [hT] at hR S1
          have HR2 := Lib.hid hR.symm
          replace S1 := Lib.hid S1
          clear hR hck hT ho hdl
          go_wp2_with fail
          refine S1.out.mono ?_
          rintro e w7 ⟨⟨v7, rfl⟩, rfl⟩
          clear S1
          go_wp2
          go_ret2
          rw [HR2.out]
          exact ⟨none, 0, rfl, own_none2 _ _, by rw [HGe.out]; exact hbel⟩
        · rw [hT] at hR S1
          dsimp only at hR
          obtain ⟨hl7, hb2, hc63⟩ := hck c b2 hT
          rw [List.drop_drop, show p1 + (n - p1 - b2.length) = n - b2.length from by omega] at hb2
          have hp5 : p1 < n - b2.length := by omega
          have hp5n : n - b2.length ≤ n := by omega
          unfold SumPost at S1
          dsimp only at S1
          generalize n - b2.length = p2 at *
          replace S1 := Lib.hid S1
          have hp2p : p < p2 := by omega
          have hc8 : (c : Int) ≤ 100000000000000000 := by omega
          clear hck hT hl7 hc63 hdl
          have HRX := Lib.hid hR
          have HB2 := Lib.hid hb2
          clear hR hb2
          go_wp2_with fail
          refine S1.out.mono ?_
          rintro e w7 ⟨rfl, rfl⟩
          clear S1
          have hp2neg : ¬ ((p2 : Int) < 0) := by omega
          have hR := HRX.out
          have hb2 := HB2.out
          clear HRX HB2
          have hl2 : b2.length = n - p2 := by rw [hb2, List.length_drop, Hl.out]
          rw [hl2] at hR
          by_cases h1 : most < m + c
          · rw [if_pos h1] at hR
            have HR2 := Lib.hid hR.symm
            have h1' : (most : Int) - (m : Int) < (c : Int) := by omega
            clear hR ho hl2 hb2
            go_wp2
            go_ret2
            rw [HR2.out]
            exact ⟨none, 0, rfl, own_none2 _ _, by rw [HGe.out]; exact hbel⟩
          · rw [if_neg h1] at hR
            have h1' : ¬ ((most : Int) - (m : Int) < (c : Int)) := by omega
            by_cases h2 : n - p2 < c
            · rw [if_pos h2] at hR
              have HR2 := Lib.hid hR.symm
              have h2' : (n : Int) - (p2 : Int) < (c : Int) := by omega
              clear hR ho hl2 hb2
              go_wp2
              go_ret2
              rw [HR2.out]
              exact ⟨none, 0, rfl, own_none2 _ _, by rw [HGe.out]; exact hbel⟩
            · rw [if_neg h2] at hR
              have h2' : ¬ ((n : Int) - (p2 : Int) < (c : Int)) := by omega
              obtain ⟨p3, hp3⟩ : ∃ p3, p3 = p2 + c := ⟨_, rfl⟩
              have hp3i : (p2 : Int) + (c : Int) = (p3 : Int) := by omega
              have hbr := hb.below hbel
              have hsrc := (hbr.cut (k := p2) (cap := cap) (by rw [Hl.out]; omega) (by rw [Hl.out]; omega)).take c
              rw [← hb2] at hsrc
              have hlsrc : (b2.take c).length = c := by rw [List.length_take, hl2]; omega
              have hrest : b2.drop c = l.drop p3 := by rw [hb2, List.drop_drop, hp3]
              rw [hrest] at hR
              have hrun := run_cut_lh A n cap p2 p3 (by omega) (by omega)
              rw [show p3 - p2 = c from by omega] at hrun
              generalize cutAt A cap p2 = As at *
              generalize cap - p2 = cs at *
              generalize hT3 : b2.take c = T3 at *
              have HT3 := Lib.hid hlsrc
              have hmc : m + c ≤ 140737488355328 := by omega
              have hp3n : p3 ≤ n := by omega
              have hp3p : p < p3 := by omega
              have hrl : (l.drop p3).length = n - p3 := by rw [List.length_drop, Hl.out]
              have Hm := Lib.hid (show m + c ≤ most from by omega)
              clear hT3 hlsrc hrest hl2 hb2 hbr
              have Hp3 := Lib.hid hp3; clear hp3
              rcases hT4 : l.drop p3 with _ | ⟨x, _ | ⟨y, b3⟩⟩
              · rw [hT4] at hR hrl
                obtain rfl : p3 = n := by simp at hrl; omega
                dsimp only at hR
                have HR2 := Lib.hid hR
                clear hR hrl hT4
                by_cases hm0 : mm = 0
                · subst hm0
                  have hc := fun A1 c1 w1 ho hG => copy_any A1 (m + c) c1 w1.heap.size (out ++ T3) w1 ho hmc (hG) (Nat.le_refl _)
                  replace hc := Lib.hid hc
                  go_wp2_with (at_builtin; refine wpList_append_bytes rfl (.tmp 53) (.tmp 59) rfl G A' m c' out rfl ho _ As c cs T3 rfl HT3.out hsrc (by omega) hGr ?_; intro A5 c5 w5 ho5 hg5 hat5)
                  have hbel5 := hbel.grown hg5 hGr (fun k hk => (ho.lt hk).1)
                  have hG5 : G ≤ w5.heap.size := Nat.le_trans hGr hg5.size
                  refine (hc.out A5 c5 w5 ho5.len ho5.bytes).mono ?_
                  rintro e w6 ⟨A6, c6, rfl, ho6, hb6⟩
                  have hlen6 := ho6.len
                  clear hc
                  go_wp2
                  go_ret2
                  have e := HR2.out
                  simp only [if_true] at e
                  subst e
                  exact ⟨A6, c6, by rw [hlen6]; rfl, by rw [hlen6, HGe.out]; exact ho6.low hG5, by rw [HGe.out]; exact hbel5.trans (hb6.mono hG5)⟩
                · have hm0' : ¬ ((mm : Int) = 0) := by omega
                  have hm0'' : ((mm : Int) != 0) = true := by simp; omega
                  have e := HR2.out
                  rw [if_neg hm0] at e
                  have HR3 := Lib.hid e.symm
                  clear e HR2 hm0
                  go_wp2_with (at_builtin; refine wpList_append_bytes rfl (.tmp 53) (.tmp 59) rfl G A' m c' out rfl ho _ As c cs T3 rfl HT3.out hsrc (by omega) hGr ?_; intro A5 c5 w5 ho5 hg5 hat5)
                  have hbel5 := hbel.grown hg5 hGr (fun k hk => (ho.lt hk).1)
                  go_ret2
                  rw [HR3.out]
                  exact ⟨none, 0, rfl, own_none2 _ _, by rw [HGe.out]; exact hbel5⟩
              · rw [hT4] at hR hrl
                have hn1 : n = p3 + 1 := by simp at hrl; omega
                have HR2 := Lib.hid hR.symm
                have e1 : ¬ ((p3 : Int) = (n : Int)) := by omega
                have e2 : (n : Int) - (p3 : Int) < 2 := by omega
                clear hR hrl hT4 hn1
                go_wp2_with (at_builtin; refine wpList_append_bytes rfl (.tmp 53) (.tmp 59) rfl G A' m c' out rfl ho _ As c cs T3 rfl HT3.out hsrc (by omega) hGr ?_; intro A5 c5 w5 ho5 hg5 hat5)
                have hbel5 := hbel.grown hg5 hGr (fun k hk => (ho.lt hk).1)
                go_ret2
                rw [HR2.out]
                exact ⟨none, 0, rfl, own_none2 _ _, by rw [HGe.out]; exact hbel5⟩
              · have hx0 : Lz.at_ l p3 = x.toNat := by
                  have e := Lz.getD_drop l p3 0
                  rw [hT4, Nat.add_zero] at e
                  unfold Lz.at_
                  rw [← e]; rfl
                have hy0 : Lz.at_ l (p3 + 1) = y.toNat := by
                  have e := Lz.getD_drop l p3 1
                  rw [hT4] at e
                  unfold Lz.at_
                  rw [← e]; rfl
                have hb3 : b3 = l.drop (p3 + 2) := by rw [← List.drop_drop, hT4]; rfl
                rw [hT4] at hR hrl
                have hn2 : p3 + 2 ≤ n := by simp at hrl; omega
                dsimp only at hR
                have e1 : ¬ ((p3 : Int) = (n : Int)) := by omega
                have e2 : ¬ ((n : Int) - (p3 : Int) < 2) := by omega
                have hx1 := x.toNat_lt
                have hy1 := y.toNat_lt
                have hd64 : x.toNat + 256 * y.toNat ≤ 65535 := by omega
                have hdi : ((x.toNat : Nat) : Int) + 256 * ((y.toNat : Nat) : Int) = ((x.toNat + 256 * y.toNat : Nat) : Int) := by omega
                obtain ⟨a0, hca, hia⟩ := hb.idx (k := p3) (by rw [Hl.out]; omega)
                obtain ⟨a1, hcb, hib⟩ := hb.idx (k := p3 + 1) (by rw [Hl.out]; omega)
                rw [hx0] at hca
                rw [hy0] at hcb
                have HCA := Lib.hid hca
                have HCB := Lib.hid hcb
                have r0 := fun u => hia n cap u (by omega)
                have r1 := fun u => hib n cap u (by omega)
                rw [show ((p3 + 1 : Nat) : Int) = (p3 : Int) + 1 from by omega] at r1
                clear hca hcb hia hib
                generalize x.toNat + 256 * y.toNat = d at *
                generalize x.toNat = x0 at *
                generalize y.toNat = y0 at *
                obtain ⟨p4, hp4⟩ : ∃ p4, p4 = p3 + 2 := ⟨_, rfl⟩
                have hp4i : (p3 : Int) + 2 = (p4 : Int) := by omega
                have hp4p : p < p4 := by omega
                have hp4n : p4 ≤ n := by omega
                rw [← hp4] at hb3
                clear hrl hT4 hx0 hy0 hn2 hp4
                go_wp2_with (at_builtin; refine wpList_append_bytes rfl (.tmp 53) (.tmp 59) rfl G A' m c' out rfl ho _ As c cs T3 rfl HT3.out hsrc (by omega) hGr ?_; intro A5 c5 w5 ho5 hg5 hat5)
                have hbel5 := hbel.grown hg5 hGr (fun k hk => (ho.lt hk).1)
                have hG5 : G ≤ w5.heap.size := Nat.le_trans hGr hg5.size
                have ca := HCA.out w5 hbel5
                have cb := HCB.out w5 hbel5
                clear hg5 hat5 ho hbel hGr hrun hsrc HT3 HCA HCB
                go_quiet (fail)
                rename_i nq
                replace ho5 := ho5.below ((Drawn.drewN (Drawn.refl _) nq).below _)
                replace hbel5 := hbel5.trans ((Drawn.drewN (Drawn.refl _) nq).below _)
                have hG5 : G ≤ (w5.drewN nq).heap.size := hG5
                clear ca cb r0 r1
                generalize w5.drewN nq = w6 at *
                have hmI : ((m + c : Nat) : Int) = (m : Int) + (c : Int) := by omega
                obtain ⟨m5, hm5⟩ : ∃ m5, m5 = m + c := ⟨_, rfl⟩
                have hm5i : (m : Int) + (c : Int) = (m5 : Int) := by omega
                rw [← hm5] at ho5 hR Hm hmc ⊢
                clear hm5 hmI
                generalize out ++ T3 = O5 at *
                have hm5m := Hm.out
                by_cases hd0 : d = 0 ∨ m5 < d
                · rw [if_pos hd0] at hR
                  have HR2 := Lib.hid hR.symm
                  clear hR ho5 hb3
                  by_cases hdz : d = 0
                  · subst hdz
                    clear hd0
                    go_wp2
                    go_ret2
                    rw [HR2.out]
                    exact ⟨none, 0, rfl, own_none2 _ _, by rw [HGe.out]; exact hbel5⟩
                  · have hdz' : ¬ ((d : Int) = 0) := by omega
                    have hdl : (m5 : Int) < (d : Int) := by omega
                    clear hd0 hdz
                    go_wp2
                    go_ret2
                    rw [HR2.out]
                    exact ⟨none, 0, rfl, own_none2 _ _, by rw [HGe.out]; exact hbel5⟩
                · rw [if_neg hd0] at hR
                  have hdz' : ¬ ((d : Int) = 0) := by omega
                  have hdl : ¬ ((m5 : Int) < (d : Int)) := by omega
                  have hd1 : 1 ≤ d := by omega
                  have hd2 : d ≤ m5 := by omega
                  clear hd0
                  by_cases hm15 : mm = 15
                  · subst hm15
                    have e : Lz.takeCount 15 b3 = Lz.takeExt 15 (l.drop p4) := by rw [hb3]; rfl
                    rw [e] at hR
                    have S1 := sum_any A n cap G p4 l w6 Hl.out hp4n (by omega) (hb.below hbel5)
                    have hck := fun c7 b4 => Lz.takeExt_length (l.drop p4) 15 c7 b4
                    have hdl4 : (l.drop p4).length = n - p4 := by rw [List.length_drop, Hl.out]
                    rw [hdl4] at hck
                    clear e hb3
                    rcases hT : Lz.takeExt 15 (l.drop p4) with _ | ⟨c7, b4⟩
                    · rw [hT] at hR S1
                      have HR2 := Lib.hid hR.symm
                      replace S1 := Lib.hid S1
                      clear hR hck hT ho5 hdl4
                      go_wp2_with fail
                      refine S1.out.mono ?_
                      rintro e w7 ⟨⟨v7, rfl⟩, rfl⟩
                      clear S1
                      go_wp2
                      go_ret2
                      rw [HR2.out]
                      exact ⟨none, 0, rfl, own_none2 _ _, by rw [HGe.out]; exact hbel5⟩
                    · rw [hT] at hR S1
                      dsimp only at hR
                      obtain ⟨hl7, hb4, hc63⟩ := hck c7 b4 hT
                      rw [List.drop_drop, show p4 + (n - p4 - b4.length) = n - b4.length from by omega] at hb4
                      have hp5 : p4 < n - b4.length := by omega
                      have hp5n : n - b4.length ≤ n := by omega
                      unfold SumPost at S1
                      dsimp only at S1
                      generalize n - b4.length = p5 at *
                      subst hb4
                      replace S1 := Lib.hid S1
                      have hp5p : p < p5 := by omega
                      have hc8 : (c7 : Int) ≤ 100000000000000000 := by omega
                      clear hck hT hl7 hc63 hdl4
                      go_wp2_with fail
                      refine S1.out.mono ?_
                      rintro e w7 ⟨rfl, rfl⟩
                      clear S1
                      have hp5neg : ¬ ((p5 : Int) < 0) := by omega
                      by_cases h3 : most < m5 + (c7 + 4)
                      · rw [if_pos h3] at hR
                        have HR2 := Lib.hid hR.symm
                        have h3' : (most : Int) - (m5 : Int) < (c7 : Int) + 4 := by omega
                        clear hR ho5
                        go_wp2
                        go_ret2
                        rw [HR2.out]
                        exact ⟨none, 0, rfl, own_none2 _ _, by rw [HGe.out]; exact hbel5⟩
                      · rw [if_neg h3] at hR
                        have h3' : ¬ ((most : Int) - (m5 : Int) < (c7 : Int) + 4) := by omega
                        have HR2 := Lib.hid hR
                        clear hR
                        go_wp2
                        go_loopw [6, 8] (fun o y wq => ∃ (j r : Nat) (A6 : Option Addr) (c6 : Nat), j + r = c7 + 4 ∧ y = .int .i64 r ∧ o = .slice A6 (m5 + j) c6 ∧ Own wq G A6 (m5 + j) c6 (Lz.back O5 d j) ∧ Below G w wq ∧ G ≤ wq.heap.size) (fun _ y _ => (intOf y).toNat)
                        case atStart => exact ⟨0, c7 + 4, A5, c5, by omega, by go_num, rfl, ho5, hbel5, hG5⟩
                        case round =>
                          clear ho5 hbel5 hG5
                          obtain ⟨j, r, A6, c6, hjr, rfl, rfl, ho6, hbel6, hG6⟩ := hrel
                          by_cases hr : r = 0
                          · subst hr
                            have Hj := Lib.hid (show j = c7 + 4 from by omega)
                            have hj5 : m5 + j ≤ most := by omega
                            clear hjr h3 h3'
                            go_wp2
                            go_roundw
                            case rel => exact ⟨p5, f, m5 + j, A6, c6, _, rfl, rfl, by omega, by omega, by rw [Hj.out]; exact HR2.out, hj5, ho6, hbel6, hG6⟩
                            case measure => simp [intOf]; omega
                          · have hr' : (0 : Int) < (r : Int) := by omega
                            have hbl := Lz.back_length d j O5
                            have hol := ho6.len
                            obtain ⟨q, hq⟩ : ∃ q, q = m5 + j - d := ⟨_, rfl⟩
                            have hqi : (m5 : Int) + (j : Int) - (d : Int) = (q : Int) := by omega
                            obtain ⟨g6, rfl, hg60, hg61⟩ := ho6.at_ (by omega)
                            have hcell := ho6.cellD (k := q) (by rw [hol]; omega)
                            have hidx := run_index_own2 g6 (m5 + j) c6 q (by omega)
                            have hlq : (Lz.back O5 d j).length - d = q := by rw [hol]; exact hq.symm
                            have hsn : Lz.back O5 d (j + 1) = Lz.back O5 d j ++ [(Lz.back O5 d j).getD q 0] := by rw [Lz.back_snoc, hlq]
                            generalize (Lz.back O5 d j).getD q 0 = v at *
                            have Hsn := Lib.hid hsn
                            have hone := own_one wr v ((v.toNat : Nat) : Int) rfl
                            have hv := v.toNat_lt
                            have hb1 := hone.bytes
                            have ho7 := ho6.alloc (.cells #[.int .u8 ((v.toNat : Nat) : Int)] 5)
                            have hbel7 : Below G w (wr.alloc (.cells #[.int .u8 ((v.toNat : Nat) : Int)] 5)) := hbel6.alloc hG6 _
                            have hG7 : G ≤ (wr.alloc (.cells #[.int .u8 ((v.toNat : Nat) : Int)] 5)).heap.size := by simp; omega
                            have Hq := Lib.hid hq
                            clear hsn hlq hbl hol hone hq ho6 hbel6
                            generalize ((v.toNat : Nat) : Int) = vz at *
                            go_wp2_with (at_builtin; refine wpList_append_bytes rfl (.tmp 123) (.tmp 131) rfl G _ (m5 + j) c6 _ rfl ho7 _ _ 1 1 [v] rfl rfl hb1 (by omega) hG7 ?_; intro A8 c8 w8 ho8 hg8 hat8)
                            have hbel8 := hbel7.grown hg8 hG7 (fun k hk => (ho7.lt hk).1)
                            go_roundw
                            case rel => exact ⟨j + 1, r - 1, A8, c8, by omega, congrArg (Value.int .i64) (by omega), rfl, by rw [Hsn.out]; exact ho8, hbel8, Nat.le_trans hG7 hg8.size⟩
                            case measure => simp [intOf]; omega
                  · have hm15' : ¬ ((mm : Int) = 15) := by omega
                    have e : Lz.takeCount mm b3 = some (mm, b3) := by unfold Lz.takeCount; rw [if_pos (by omega)]
                    rw [e] at hR
                    dsimp only at hR
                    obtain ⟨c7, hc7⟩ : ∃ c7, c7 = mm := ⟨_, rfl⟩
                    obtain ⟨p5, hp5⟩ : ∃ p5, p5 = p4 := ⟨_, rfl⟩
                    subst hc7 hp5
                    have hp5p := hp4p
                    have hp5n := hp4n
                    subst hb3
                    clear e hm15
                    by_cases h3 : most < m5 + (c7 + 4)
                    · rw [if_pos h3] at hR
                      have HR2 := Lib.hid hR.symm
                      have h3' : (most : Int) - (m5 : Int) < (c7 : Int) + 4 := by omega
                      clear hR ho5
                      go_wp2
                      go_ret2
                      rw [HR2.out]
                      exact ⟨none, 0, rfl, own_none2 _ _, by rw [HGe.out]; exact hbel5⟩
                    · rw [if_neg h3] at hR
                      have h3' : ¬ ((most : Int) - (m5 : Int) < (c7 : Int) + 4) := by omega
                      have HR2 := Lib.hid hR
                      clear hR
                      go_wp2
                      go_loopw [6, 8] (fun o y wq => ∃ (j r : Nat) (A6 : Option Addr) (c6 : Nat), j + r = c7 + 4 ∧ y = .int .i64 r ∧ o = .slice A6 (m5 + j) c6 ∧ Own wq G A6 (m5 + j) c6 (Lz.back O5 d j) ∧ Below G w wq ∧ G ≤ wq.heap.size) (fun _ y _ => (intOf y).toNat)
                      case atStart => exact ⟨0, c7 + 4, A5, c5, by omega, by go_num, rfl, ho5, hbel5, hG5⟩
                      case round =>
                        clear ho5 hbel5 hG5
                        obtain ⟨j, r, A6, c6, hjr, rfl, rfl, ho6, hbel6, hG6⟩ := hrel
                        by_cases hr : r = 0
                        · subst hr
                          have Hj := Lib.hid (show j = c7 + 4 from by omega)
                          have hj5 : m5 + j ≤ most := by omega
                          clear hjr h3 h3'
                          go_wp2
                          go_roundw
                          case rel => exact ⟨p5, f, m5 + j, A6, c6, _, rfl, rfl, by omega, by omega, by rw [Hj.out]; exact HR2.out, hj5, ho6, hbel6, hG6⟩
                          case measure => simp [intOf]; omega
                        · have hr' : (0 : Int) < (r : Int) := by omega
                          have hbl := Lz.back_length d j O5
                          have hol := ho6.len
                          obtain ⟨q, hq⟩ : ∃ q, q = m5 + j - d := ⟨_, rfl⟩
                          have hqi : (m5 : Int) + (j : Int) - (d : Int) = (q : Int) := by omega
                          obtain ⟨g6, rfl, hg60, hg61⟩ := ho6.at_ (by omega)
                          have hcell := ho6.cellD (k := q) (by rw [hol]; omega)
                          have hidx := run_index_own2 g6 (m5 + j) c6 q (by omega)
                          have hlq : (Lz.back O5 d j).length - d = q := by rw [hol]; exact hq.symm
                          have hsn : Lz.back O5 d (j + 1) = Lz.back O5 d j ++ [(Lz.back O5 d j).getD q 0] := by rw [Lz.back_snoc, hlq]
                          generalize (Lz.back O5 d j).getD q 0 = v at *
                          have Hsn := Lib.hid hsn
                          have hone := own_one wr v ((v.toNat : Nat) : Int) rfl
                          have hv := v.toNat_lt
                          have hb1 := hone.bytes
                          have ho7 := ho6.alloc (.cells #[.int .u8 ((v.toNat : Nat) : Int)] 5)
                          have hbel7 : Below G w (wr.alloc (.cells #[.int .u8 ((v.toNat : Nat) : Int)] 5)) := hbel6.alloc hG6 _
                          have hG7 : G ≤ (wr.alloc (.cells #[.int .u8 ((v.toNat : Nat) : Int)] 5)).heap.size := by simp; omega
                          have Hq := Lib.hid hq
                          clear hsn hlq hbl hol hone hq ho6 hbel6
                          generalize ((v.toNat : Nat) : Int) = vz at *
                          go_wp2_with (at_builtin; refine wpList_append_bytes rfl (.tmp 123) (.tmp 131) rfl G _ (m5 + j) c6 _ rfl ho7 _ _ 1 1 [v] rfl rfl hb1 (by omega) hG7 ?_; intro A8 c8 w8 ho8 hg8 hat8)
                          have hbel8 := hbel7.grown hg8 hG7 (fun k hk => (ho7.lt hk).1)
                          go_roundw
                          case rel => exact ⟨j + 1, r - 1, A8, c8, by omega, congrArg (Value.int .i64) (by omega), rfl, by rw [Hsn.out]; exact ho8, hbel8, Nat.le_trans hG7 hg8.size⟩
                          case measure => simp [intOf]; omega
      · have h15' : ¬ ((h : Int) = 15) := by omega
        have e : Lz.takeCount h (l.drop (p + 1)) = some (h, l.drop (p + 1)) := by unfold Lz.takeCount; rw [if_pos (by omega)]
        rw [e] at hR
        dsimp only at hR
        obtain ⟨p2, hp2⟩ : ∃ p2, p2 = p + 1 := ⟨_, rfl⟩
        have hp1i : (p : Int) + 1 = (p2 : Int) := by omega
        have hp5n : p2 ≤ n := by omega
        have hp2p : p < p2 := by omega
        rw [← hp2] at hR
        obtain ⟨c, hc⟩ : ∃ c, c = h := ⟨_, rfl⟩
        subst hc
        obtain ⟨b2, hb2⟩ : ∃ b2, b2 = l.drop p2 := ⟨_, rfl⟩
        rw [← hb2] at hR
        have hc8 : (c : Int) ≤ 100000000000000000 := by omega
        clear hp2 e h15
        have hl2 : b2.length = n - p2 := by rw [hb2, List.length_drop, Hl.out]
        rw [hl2] at hR
        by_cases h1 : most < m + c
        · rw [if_pos h1] at hR
          have HR2 := Lib.hid hR.symm
          have h1' : (most : Int) - (m : Int) < (c : Int) := by omega
          clear hR ho hl2 hb2
          go_wp2
          go_ret2
          rw [HR2.out]
          exact ⟨none, 0, rfl, own_none2 _ _, by rw [HGe.out]; exact hbel⟩
        · rw [if_neg h1] at hR
          have h1' : ¬ ((most : Int) - (m : Int) < (c : Int)) := by omega
          by_cases h2 : n - p2 < c
          · rw [if_pos h2] at hR
            have HR2 := Lib.hid hR.symm
            have h2' : (n : Int) - (p2 : Int) < (c : Int) := by omega
            clear hR ho hl2 hb2
            go_wp2
            go_ret2
            rw [HR2.out]
            exact ⟨none, 0, rfl, own_none2 _ _, by rw [HGe.out]; exact hbel⟩
          · rw [if_neg h2] at hR
            have h2' : ¬ ((n : Int) - (p2 : Int) < (c : Int)) := by omega
            obtain ⟨p3, hp3⟩ : ∃ p3, p3 = p2 + c := ⟨_, rfl⟩
            have hp3i : (p2 : Int) + (c : Int) = (p3 : Int) := by omega
            have hbr := hb.below hbel
            have hsrc := (hbr.cut (k := p2) (cap := cap) (by rw [Hl.out]; omega) (by rw [Hl.out]; omega)).take c
            rw [← hb2] at hsrc
            have hlsrc : (b2.take c).length = c := by rw [List.length_take, hl2]; omega
            have hrest : b2.drop c = l.drop p3 := by rw [hb2, List.drop_drop, hp3]
            rw [hrest] at hR
            have hrun := run_cut_lh A n cap p2 p3 (by omega) (by omega)
            rw [show p3 - p2 = c from by omega] at hrun
            generalize cutAt A cap p2 = As at *
            generalize cap - p2 = cs at *
            generalize hT3 : b2.take c = T3 at *
            have HT3 := Lib.hid hlsrc
            have hmc : m + c ≤ 140737488355328 := by omega
            have hp3n : p3 ≤ n := by omega
            have hp3p : p < p3 := by omega
            have hrl : (l.drop p3).length = n - p3 := by rw [List.length_drop, Hl.out]
            have Hm := Lib.hid (show m + c ≤ most from by omega)
            clear hT3 hlsrc hrest hl2 hb2 hbr
            have Hp3 := Lib.hid hp3; clear hp3
            rcases hT4 : l.drop p3 with _ | ⟨x, _ | ⟨y, b3⟩⟩
            · rw [hT4] at hR hrl
              obtain rfl : p3 = n := by simp at hrl; omega
              dsimp only at hR
              have HR2 := Lib.hid hR
              clear hR hrl hT4
              by_cases hm0 : mm = 0
              · subst hm0
                have hc := fun A1 c1 w1 ho hG => copy_any A1 (m + c) c1 w1.heap.size (out ++ T3) w1 ho hmc (hG) (Nat.le_refl _)
                replace hc := Lib.hid hc
                go_wp2_with (at_builtin; refine wpList_append_bytes rfl (.tmp 53) (.tmp 59) rfl G A' m c' out rfl ho _ As c cs T3 rfl HT3.out hsrc (by omega) hGr ?_; intro A5 c5 w5 ho5 hg5 hat5)
                have hbel5 := hbel.grown hg5 hGr (fun k hk => (ho.lt hk).1)
                have hG5 : G ≤ w5.heap.size := Nat.le_trans hGr hg5.size
                refine (hc.out A5 c5 w5 ho5.len ho5.bytes).mono ?_
                rintro e w6 ⟨A6, c6, rfl, ho6, hb6⟩
                have hlen6 := ho6.len
                clear hc
                go_wp2
                go_ret2
                have e := HR2.out
                simp only [if_true] at e
                subst e
                exact ⟨A6, c6, by rw [hlen6]; rfl, by rw [hlen6, HGe.out]; exact ho6.low hG5, by rw [HGe.out]; exact hbel5.trans (hb6.mono hG5)⟩
              · have hm0' : ¬ ((mm : Int) = 0) := by omega
                have hm0'' : ((mm : Int) != 0) = true := by simp; omega
                have e := HR2.out
                rw [if_neg hm0] at e
                have HR3 := Lib.hid e.symm
                clear e HR2 hm0
                go_wp2_with (at_builtin; refine wpList_append_bytes rfl (.tmp 53) (.tmp 59) rfl G A' m c' out rfl ho _ As c cs T3 rfl HT3.out hsrc (by omega) hGr ?_; intro A5 c5 w5 ho5 hg5 hat5)
                have hbel5 := hbel.grown hg5 hGr (fun k hk => (ho.lt hk).1)
                go_ret2
                rw [HR3.out]
                exact ⟨none, 0, rfl, own_none2 _ _, by rw [HGe.out]; exact hbel5⟩
            · rw [hT4] at hR hrl
              have hn1 : n = p3 + 1 := by simp at hrl; omega
              have HR2 := Lib.hid hR.symm
              have e1 : ¬ ((p3 : Int) = (n : Int)) := by omega
              have e2 : (n : Int) - (p3 : Int) < 2 := by omega
              clear hR hrl hT4 hn1
              go_wp2_with (at_builtin; refine wpList_append_bytes rfl (.tmp 53) (.tmp 59) rfl G A' m c' out rfl ho _ As c cs T3 rfl HT3.out hsrc (by omega) hGr ?_; intro A5 c5 w5 ho5 hg5 hat5)
              have hbel5 := hbel.grown hg5 hGr (fun k hk => (ho.lt hk).1)
              go_ret2
              rw [HR2.out]
              exact ⟨none, 0, rfl, own_none2 _ _, by rw [HGe.out]; exact hbel5⟩
            · have hx0 : Lz.at_ l p3 = x.toNat := by
                have e := Lz.getD_drop l p3 0
                rw [hT4, Nat.add_zero] at e
                unfold Lz.at_
                rw [← e]; rfl
              have hy0 : Lz.at_ l (p3 + 1) = y.toNat := by
                have e := Lz.getD_drop l p3 1
                rw [hT4] at e
                unfold Lz.at_
                rw [← e]; rfl
              have hb3 : b3 = l.drop (p3 + 2) := by rw [← List.drop_drop, hT4]; rfl
              rw [hT4] at hR hrl
              have hn2 : p3 + 2 ≤ n := by simp at hrl; omega
              dsimp only at hR
              have e1 : ¬ ((p3 : Int) = (n : Int)) := by omega
              have e2 : ¬ ((n : Int) - (p3 : Int) < 2) := by omega
              have hx1 := x.toNat_lt
              have hy1 := y.toNat_lt
              have hd64 : x.toNat + 256 * y.toNat ≤ 65535 := by omega
              have hdi : ((x.toNat : Nat) : Int) + 256 * ((y.toNat : Nat) : Int) = ((x.toNat + 256 * y.toNat : Nat) : Int) := by omega
              obtain ⟨a0, hca, hia⟩ := hb.idx (k := p3) (by rw [Hl.out]; omega)
              obtain ⟨a1, hcb, hib⟩ := hb.idx (k := p3 + 1) (by rw [Hl.out]; omega)
              rw [hx0] at hca
              rw [hy0] at hcb
              have HCA := Lib.hid hca
              have HCB := Lib.hid hcb
              have r0 := fun u => hia n cap u (by omega)
              have r1 := fun u => hib n cap u (by omega)
              rw [show ((p3 + 1 : Nat) : Int) = (p3 : Int) + 1 from by omega] at r1
              clear hca hcb hia hib
              generalize x.toNat + 256 * y.toNat = d at *
              generalize x.toNat = x0 at *
              generalize y.toNat = y0 at *
              obtain ⟨p4, hp4⟩ : ∃ p4, p4 = p3 + 2 := ⟨_, rfl⟩
              have hp4i : (p3 : Int) + 2 = (p4 : Int) := by omega
              have hp4p : p < p4 := by omega
              have hp4n : p4 ≤ n := by omega
              rw [← hp4] at hb3
              clear hrl hT4 hx0 hy0 hn2 hp4
              go_wp2_with (at_builtin; refine wpList_append_bytes rfl (.tmp 53) (.tmp 59) rfl G A' m c' out rfl ho _ As c cs T3 rfl HT3.out hsrc (by omega) hGr ?_; intro A5 c5 w5 ho5 hg5 hat5)
              have hbel5 := hbel.grown hg5 hGr (fun k hk => (ho.lt hk).1)
              have hG5 : G ≤ w5.heap.size := Nat.le_trans hGr hg5.size
              have ca := HCA.out w5 hbel5
              have cb := HCB.out w5 hbel5
              clear hg5 hat5 ho hbel hGr hrun hsrc HT3 HCA HCB
              go_quiet (fail)
              rename_i nq
              replace ho5 := ho5.below ((Drawn.drewN (Drawn.refl _) nq).below _)
              replace hbel5 := hbel5.trans ((Drawn.drewN (Drawn.refl _) nq).below _)
              have hG5 : G ≤ (w5.drewN nq).heap.size := hG5
              clear ca cb r0 r1
              generalize w5.drewN nq = w6 at *
              have hmI : ((m + c : Nat) : Int) = (m : Int) + (c : Int) := by omega
              obtain ⟨m5, hm5⟩ : ∃ m5, m5 = m + c := ⟨_, rfl⟩
              have hm5i : (m : Int) + (c : Int) = (m5 : Int) := by omega
              rw [← hm5] at ho5 hR Hm hmc ⊢
              clear hm5 hmI
              generalize out ++ T3 = O5 at *
              have hm5m := Hm.out
              by_cases hd0 : d = 0 ∨ m5 < d
              · rw [if_pos hd0] at hR
                have HR2 := Lib.hid hR.symm
                clear hR ho5 hb3
                by_cases hdz : d = 0
                · subst hdz
                  clear hd0
                  go_wp2
                  go_ret2
                  rw [HR2.out]
                  exact ⟨none, 0, rfl, own_none2 _ _, by rw [HGe.out]; exact hbel5⟩
                · have hdz' : ¬ ((d : Int) = 0) := by omega
                  have hdl : (m5 : Int) < (d : Int) := by omega
                  clear hd0 hdz
                  go_wp2
                  go_ret2
                  rw [HR2.out]
                  exact ⟨none, 0, rfl, own_none2 _ _, by rw [HGe.out]; exact hbel5⟩
              · rw [if_neg hd0] at hR
                have hdz' : ¬ ((d : Int) = 0) := by omega
                have hdl : ¬ ((m5 : Int) < (d : Int)) := by omega
                have hd1 : 1 ≤ d := by omega
                have hd2 : d ≤ m5 := by omega
                clear hd0
                by_cases hm15 : mm = 15
                · subst hm15
                  have e : Lz.takeCount 15 b3 = Lz.takeExt 15 (l.drop p4) := by rw [hb3]; rfl
                  rw [e] at hR
                  have S1 := sum_any A n cap G p4 l w6 Hl.out hp4n (by omega) (hb.below hbel5)
                  have hck := fun c7 b4 => Lz.takeExt_length (l.drop p4) 15 c7 b4
                  have hdl4 : (l.drop p4).length = n - p4 := by rw [List.length_drop, Hl.out]
                  rw [hdl4] at hck
                  clear e hb3
                  rcases hT : Lz.takeExt 15 (l.drop p4) with _ | ⟨c7, b4⟩
                  · rw [hT] at hR S1
                    have HR2 := Lib.hid hR.symm
                    replace S1 := Lib.hid S1
                    clear hR hck hT ho5 hdl4
                    go_wp2_with fail
                    refine S1.out.mono ?_
                    rintro e w7 ⟨⟨v7, rfl⟩, rfl⟩
                    clear S1
                    go_wp2
                    go_ret2
                    rw [HR2.out]
                    exact ⟨none, 0, rfl, own_none2 _ _, by rw [HGe.out]; exact hbel5⟩
                  · rw [hT] at hR S1
                    dsimp only at hR
                    obtain ⟨hl7, hb4, hc63⟩ := hck c7 b4 hT
                    rw [List.drop_drop, show p4 + (n - p4 - b4.length) = n - b4.length from by omega] at hb4
                    have hp5 : p4 < n - b4.length := by omega
                    have hp5n : n - b4.length ≤ n := by omega
                    unfold SumPost at S1
                    dsimp only at S1
                    generalize n - b4.length = p5 at *
                    subst hb4
                    replace S1 := Lib.hid S1
                    have hp5p : p < p5 := by omega
                    have hc8 : (c7 : Int) ≤ 100000000000000000 := by omega
                    clear hck hT hl7 hc63 hdl4
                    go_wp2_with fail
                    refine S1.out.mono ?_
                    rintro e w7 ⟨rfl, rfl⟩
                    clear S1
                    have hp5neg : ¬ ((p5 : Int) < 0) := by omega
                    by_cases h3 : most < m5 + (c7 + 4)
                    · rw [if_pos h3] at hR
                      have HR2 := Lib.hid hR.symm
                      have h3' : (most : Int) - (m5 : Int) < (c7 : Int) + 4 := by omega
                      clear hR ho5
                      go_wp2
                      go_ret2
                      rw [HR2.out]
                      exact ⟨none, 0, rfl, own_none2 _ _, by rw [HGe.out]; exact hbel5⟩
                    · rw [if_neg h3] at hR
                      have h3' : ¬ ((most : Int) - (m5 : Int) < (c7 : Int) + 4) := by omega
                      have HR2 := Lib.hid hR
                      clear hR
                      go_wp2
                      go_loopw [6, 8] (fun o y wq => ∃ (j r : Nat) (A6 : Option Addr) (c6 : Nat), j + r = c7 + 4 ∧ y = .int .i64 r ∧ o = .slice A6 (m5 + j) c6 ∧ Own wq G A6 (m5 + j) c6 (Lz.back O5 d j) ∧ Below G w wq ∧ G ≤ wq.heap.size) (fun _ y _ => (intOf y).toNat)
                      case atStart => exact ⟨0, c7 + 4, A5, c5, by omega, by go_num, rfl, ho5, hbel5, hG5⟩
                      case round =>
                        clear ho5 hbel5 hG5
                        obtain ⟨j, r, A6, c6, hjr, rfl, rfl, ho6, hbel6, hG6⟩ := hrel
                        by_cases hr : r = 0
                        · subst hr
                          have Hj := Lib.hid (show j = c7 + 4 from by omega)
                          have hj5 : m5 + j ≤ most := by omega
                          clear hjr h3 h3'
                          go_wp2
                          go_roundw
                          case rel => exact ⟨p5, f, m5 + j, A6, c6, _, rfl, rfl, by omega, by omega, by rw [Hj.out]; exact HR2.out, hj5, ho6, hbel6, hG6⟩
                          case measure => simp [intOf]; omega
                        · have hr' : (0 : Int) < (r : Int) := by omega
                          have hbl := Lz.back_length d j O5
                          have hol := ho6.len
                          obtain ⟨q, hq⟩ : ∃ q, q = m5 + j - d := ⟨_, rfl⟩
                          have hqi : (m5 : Int) + (j : Int) - (d : Int) = (q : Int) := by omega
                          obtain ⟨g6, rfl, hg60, hg61⟩ := ho6.at_ (by omega)
                          have hcell := ho6.cellD (k := q) (by rw [hol]; omega)
                          have hidx := run_index_own2 g6 (m5 + j) c6 q (by omega)
                          have hlq : (Lz.back O5 d j).length - d = q := by rw [hol]; exact hq.symm
                          have hsn : Lz.back O5 d (j + 1) = Lz.back O5 d j ++ [(Lz.back O5 d j).getD q 0] := by rw [Lz.back_snoc, hlq]
                          generalize (Lz.back O5 d j).getD q 0 = v at *
                          have Hsn := Lib.hid hsn
                          have hone := own_one wr v ((v.toNat : Nat) : Int) rfl
                          have hv := v.toNat_lt
                          have hb1 := hone.bytes
                          have ho7 := ho6.alloc (.cells #[.int .u8 ((v.toNat : Nat) : Int)] 5)
                          have hbel7 : Below G w (wr.alloc (.cells #[.int .u8 ((v.toNat : Nat) : Int)] 5)) := hbel6.alloc hG6 _
                          have hG7 : G ≤ (wr.alloc (.cells #[.int .u8 ((v.toNat : Nat) : Int)] 5)).heap.size := by simp; omega
                          have Hq := Lib.hid hq
                          clear hsn hlq hbl hol hone hq ho6 hbel6
                          generalize ((v.toNat : Nat) : Int) = vz at *
                          go_wp2_with (at_builtin; refine wpList_append_bytes rfl (.tmp 123) (.tmp 131) rfl G _ (m5 + j) c6 _ rfl ho7 _ _ 1 1 [v] rfl rfl hb1 (by omega) hG7 ?_; intro A8 c8 w8 ho8 hg8 hat8)
                          have hbel8 := hbel7.grown hg8 hG7 (fun k hk => (ho7.lt hk).1)
                          go_roundw
                          case rel => exact ⟨j + 1, r - 1, A8, c8, by omega, congrArg (Value.int .i64) (by omega), rfl, by rw [Hsn.out]; exact ho8, hbel8, Nat.le_trans hG7 hg8.size⟩
                          case measure => simp [intOf]; omega
                · have hm15' : ¬ ((mm : Int) = 15) := by omega
                  have e : Lz.takeCount mm b3 = some (mm, b3) := by unfold Lz.takeCount; rw [if_pos (by omega)]
                  rw [e] at hR
                  dsimp only at hR
                  obtain ⟨c7, hc7⟩ : ∃ c7, c7 = mm := ⟨_, rfl⟩
                  obtain ⟨p5, hp5⟩ : ∃ p5, p5 = p4 := ⟨_, rfl⟩
                  subst hc7 hp5
                  have hp5p := hp4p
                  have hp5n := hp4n
                  subst hb3
                  clear e hm15
                  by_cases h3 : most < m5 + (c7 + 4)
                  · rw [if_pos h3] at hR
                    have HR2 := Lib.hid hR.symm
                    have h3' : (most : Int) - (m5 : Int) < (c7 : Int) + 4 := by omega
                    clear hR ho5
                    go_wp2
                    go_ret2
                    rw [HR2.out]
                    exact ⟨none, 0, rfl, own_none2 _ _, by rw [HGe.out]; exact hbel5⟩
                  · rw [if_neg h3] at hR
                    have h3' : ¬ ((most : Int) - (m5 : Int) < (c7 : Int) + 4) := by omega
                    have HR2 := Lib.hid hR
                    clear hR
                    go_wp2
                    go_loopw [6, 8] (fun o y wq => ∃ (j r : Nat) (A6 : Option Addr) (c6 : Nat), j + r = c7 + 4 ∧ y = .int .i64 r ∧ o = .slice A6 (m5 + j) c6 ∧ Own wq G A6 (m5 + j) c6 (Lz.back O5 d j) ∧ Below G w wq ∧ G ≤ wq.heap.size) (fun _ y _ => (intOf y).toNat)
                    case atStart => exact ⟨0, c7 + 4, A5, c5, by omega, by go_num, rfl, ho5, hbel5, hG5⟩
                    case round =>
                      clear ho5 hbel5 hG5
                      obtain ⟨j, r, A6, c6, hjr, rfl, rfl, ho6, hbel6, hG6⟩ := hrel
                      by_cases hr : r = 0
                      · subst hr
                        have Hj := Lib.hid (show j = c7 + 4 from by omega)
                        have hj5 : m5 + j ≤ most := by omega
                        clear hjr h3 h3'
                        go_wp2
                        go_roundw
                        case rel => exact ⟨p5, f, m5 + j, A6, c6, _, rfl, rfl, by omega, by omega, by rw [Hj.out]; exact HR2.out, hj5, ho6, hbel6, hG6⟩
                        case measure => simp [intOf]; omega
                      · have hr' : (0 : Int) < (r : Int) := by omega
                        have hbl := Lz.back_length d j O5
                        have hol := ho6.len
                        obtain ⟨q, hq⟩ : ∃ q, q = m5 + j - d := ⟨_, rfl⟩
                        have hqi : (m5 : Int) + (j : Int) - (d : Int) = (q : Int) := by omega
                        obtain ⟨g6, rfl, hg60, hg61⟩ := ho6.at_ (by omega)
                        have hcell := ho6.cellD (k := q) (by rw [hol]; omega)
                        have hidx := run_index_own2 g6 (m5 + j) c6 q (by omega)
                        have hlq : (Lz.back O5 d j).length - d = q := by rw [hol]; exact hq.symm
                        have hsn : Lz.back O5 d (j + 1) = Lz.back O5 d j ++ [(Lz.back O5 d j).getD q 0] := by rw [Lz.back_snoc, hlq]
                        generalize (Lz.back O5 d j).getD q 0 = v at *
                        have Hsn := Lib.hid hsn
                        have hone := own_one wr v ((v.toNat : Nat) : Int) rfl
                        have hv := v.toNat_lt
                        have hb1 := hone.bytes
                        have ho7 := ho6.alloc (.cells #[.int .u8 ((v.toNat : Nat) : Int)] 5)
                        have hbel7 : Below G w (wr.alloc (.cells #[.int .u8 ((v.toNat : Nat) : Int)] 5)) := hbel6.alloc hG6 _
                        have hG7 : G ≤ (wr.alloc (.cells #[.int .u8 ((v.toNat : Nat) : Int)] 5)).heap.size := by simp; omega
                        have Hq := Lib.hid hq
                        clear hsn hlq hbl hol hone hq ho6 hbel6
                        generalize ((v.toNat : Nat) : Int) = vz at *
                        go_wp2_with (at_builtin; refine wpList_append_bytes rfl (.tmp 123) (.tmp 131) rfl G _ (m5 + j) c6 _ rfl ho7 _ _ 1 1 [v] rfl rfl hb1 (by omega) hG7 ?_; intro A8 c8 w8 ho8 hg8 hat8)
                        have hbel8 := hbel7.grown hg8 hG7 (fun k hk => (ho7.lt hk).1)
                        go_roundw
                        case rel => exact ⟨j + 1, r - 1, A8, c8, by omega, congrArg (Value.int .i64) (by omega), rfl, by rw [Hsn.out]; exact ho8, hbel8, Nat.le_trans hG7 hg8.size⟩
                        case measure => simp [intOf]; omega
    · have HR2 := Lib.hid (show R = ([], 2) from by rw [← hR, List.drop_of_length_le (by rw [Hl.out]; omega)]; rfl)
      have hp' : (n : Int) ≤ (p : Int) := by omega
      clear hR ho
      go_wp2
      go_ret2
      rw [HR2.out]
      exact ⟨none, 0, rfl, own_none2 _ _, by rw [HGe.out]; exact hbel⟩
end Go.Proofs.YtoebeibmmclhpaaGreat
