/- slices.Sort and slices.Compact of strings of one's own. -/
import Derived.Test.YtahcmpmfknmecaaStrLay
import Derived.Test.YtahcmpmfknmecaaStrs
import Derived.Shelf.Slices.In.CompactS
import Derived.Shelf.Slices.In.SortAlone
import Derived.Shelf.Slices.In.SortNone
import Derived.Sort.OwnSorted
import Derived.Sort.EveryDepth
import Derived.Lib.OwnBridge
import Derived.Lib.RowBridge
namespace Go.Proofs.Ytahcmpmfknmecaa
open Go.RowKit Go.Shelf Go.Sort
set_option maxRecDepth 100000

theorem sort_c (blk off cap : Nat) (zs : List (List UInt8)) (w : World) (hH : Holds encStr w blk off zs.toArray) (hblk : blk < w.heap.size) (hsz : zs.length < 4611686018427387904) :
    Calls Try.prog 25 #[.slice (some ⟨blk, off, none⟩) zs.length cap] w fun e w' =>
      e = .returned (.tuple #[]) ∧ ∃ n os, w' = grow (putRow encStr (Sort.ahead w n) blk off (zs.mergeSort fun x y => decide (x ≤ y)).toArray) os :=
  calls_of_every_depth fun D => AnyS.slices_Sort_string_alone Try.sortL D blk off cap zs w hH hblk hsz
theorem sort_none (p : Option Addr) (cap : Nat) (w : World) :
    Calls Try.prog 25 #[.slice p 0 cap] w fun e w' => e = .returned (.tuple #[]) ∧ w' = w :=
  calls_of_every_depth fun D => AnyS.slices_Sort_string_none_alone Try.sortL D p cap w
theorem compact_c (blk off cap : Nat) (zs : List (List UInt8)) (w : World) (hH : Holds encStr w blk off zs.toArray) (hsz : zs.length ≤ 9223372036854775807) (hcap : zs.length ≤ cap) :
    Calls Try.prog 26 #[.slice (some ⟨blk, off, none⟩) zs.length cap] w fun e w' => e = .returned (.slice (some ⟨blk, off, none⟩) (Lib.compact zs).length cap) ∧
      ∃ q, w' = putRow encStr (Sort.ahead w q) blk off (Lib.compact zs ++ List.replicate (zs.length - (Lib.compact zs).length) []).toArray :=
  calls_of_every_depth fun D => AnyS.slices_Compact_string_in Try.compactL D blk off cap zs w hH hsz hcap
theorem compact_none (p : Option Addr) (cap : Nat) (w : World) :
    Calls Try.prog 26 #[.slice p 0 cap] w fun e w' => e = .returned (.slice p 0 cap) ∧ w' = w :=
  calls_of_every_depth fun D => AnyS.slices_Compact_string_empty_in Try.compactL D p cap w

theorem sortS_any {base : Nat} (A : Option Addr) (n c : Nat) (ks : List (List UInt8)) (w : World) (hown : SOwn w base A n c ks) (hn : n ≤ 1000000000) :
    Calls Try.prog 25 #[.slice A n c] w fun e w' => e = .returned (.tuple #[]) ∧ SOwn w' base A n c (ks.mergeSort fun x y => decide (x ≤ y)) ∧ w.grownBy w' (blk A) := by
  have hl := hown.len
  subst hl
  rcases hown.2 with ⟨h0, _⟩ | ⟨g, cap, cur, hv, hbase, hb, h1, h2, h3, h4⟩
  · injection h0 with e1 e2 e3
    subst e1
    obtain rfl : ks = [] := List.eq_nil_of_length_eq_zero e2
    refine (sort_none none c w).mono ?_
    rintro e w' ⟨rfl, rfl⟩
    exact ⟨rfl, by simpa using hown, World.grownBy.refl _ _⟩
  · obtain ⟨g', cap', hv', hbg, hgl, hncap, hcm, hlen, hH⟩ := Lib.holds_of_ownsRow (enc := encStr) hown (by rw [hv]; simp)
    cases hv
    cases hv'
    refine (sort_c g 0 _ ks w hH hgl (by omega)).mono ?_
    rintro e w' ⟨rfl, nn, os, rfl⟩
    exact ⟨rfl, ownsRow_sorted (ts := ks.mergeSort fun x y => decide (x ≤ y)) (List.length_mergeSort ks) hbase hb h1 h2 h3, grownBy_sorted _⟩
theorem compactS_any {base : Nat} (A : Option Addr) (n c : Nat) (ks : List (List UInt8)) (w : World) (hown : SOwn w base A n c ks) (hn : n ≤ 1000000000) :
    Calls Try.prog 26 #[.slice A n c] w fun e w' => e = .returned (.slice A (Lib.compact ks).length c) ∧ SOwn w' base A (Lib.compact ks).length c (Lib.compact ks) ∧ w.grownBy w' (blk A) := by
  have hl := hown.len
  subst hl
  rcases hown.2 with ⟨h0, _⟩ | ⟨g, cap, cur, hv, hbase, hb, h1, h2, h3, h4⟩
  · injection h0 with e1 e2 e3
    subst e1
    obtain rfl : ks = [] := List.eq_nil_of_length_eq_zero e2
    refine (compact_none none c w).mono ?_
    rintro e w' ⟨rfl, rfl⟩
    exact ⟨rfl, hown, World.grownBy.refl _ _⟩
  · obtain ⟨g', cap', hv', hbg, hgl, hncap, hcm, hlen, hH⟩ := Lib.holds_of_ownsRow (enc := encStr) hown (by rw [hv]; simp)
    cases hv
    cases hv'
    have hle := Lib.compact_length_le ks
    refine (compact_c g 0 _ ks w hH (by omega) hncap).mono ?_
    rintro e w' ⟨rfl, q, rfl⟩
    have hc := Lib.ownsRow_putRow (enc := encStr) (q := q) (k := (Lib.compact ks).length) (ys := Lib.compact ks ++ List.replicate (ks.length - (Lib.compact ks).length) []) hown (by simp; omega) (by omega)
    rw [List.take_left] at hc
    refine ⟨rfl, hc, ⟨rfl, rfl, rfl, by simp [putRow, mapBlock, Sort.ahead], fun k hk hne => ?_⟩⟩
    have : g ≠ k := fun e => hne (by rw [e]; rfl)
    simp [putRow, mapBlock, Sort.ahead, Array.getElem?_modify, this]
end Go.Proofs.Ytahcmpmfknmecaa
