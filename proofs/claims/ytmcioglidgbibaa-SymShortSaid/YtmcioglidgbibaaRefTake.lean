/- num.TakeInt; the document's Take. -/
import Derived.Test.YtmcioglidgbibaaTake
namespace Go.Proofs.Ytmcioglidgbibaa
open Go.RowKit
set_option maxRecDepth 100000

/-- what the document's Take answers -/
def RefTakePost (w : World) (l : List UInt8) (e : Ending) (w' : World) : Prop :=
  e = .returned (.tuple #[.int .u64 ((Num.take l).1 : Int), .int .i64 ((Num.take l).2.1 : Int), .int .i64 ((Num.take l).2.2 : Int)]) ∧ Below w.heap.size w w'

theorem Num.val_drop {l : List UInt8} {i : Nat} (hi : i < l.length) : Num.val (l.drop i) = Num.val (l.drop (i + 1)) * 256 + l[i].toNat := by
  rw [List.drop_eq_getElem_cons hi, Num.val]
  omega

set_option maxHeartbeats 1000000 in
theorem refTake_any (A : Option Addr) (n cap B : Nat) (l : List UInt8) (w : World) (hl : l.length = n) (hm : n ≤ 281474976710656) (hb : Bytes w B A l) :
    Calls Try.prog 71 #[.slice A n cap] w (RefTakePost w l) := by
  rcases l with _ | ⟨x, r⟩
  · obtain rfl : 0 = n := by simpa using hl
    go_enter Try.func71, Try.ntmps71
    go_wp2
    go_ret3
    exact ⟨rfl, Below.refl _ _⟩
  · have hcell := hb.get (k := 0) (by simp)
    obtain ⟨ad, rfl, hlt, hcell⟩ := hcell
    simp only [List.getElem_cons_zero, Addr.add, if_true] at hcell
    have hx256 := Num.byte_lt x
    have hn1 : r.length + 1 = n := by simpa using hl
    unfold RefTakePost
    rw [Num.take_cons]
    by_cases h1 : x.toNat ≤ 247
    · rw [if_pos h1]
      clear hb hl
      generalize x.toNat = b at *
      go_enter Try.func71, Try.ntmps71
      go_wp2
      go_ret3
      exact ⟨rfl, Below.refl _ _⟩
    · rw [if_neg h1]
      obtain ⟨k, hk⟩ : ∃ k, x.toNat = 247 + k := ⟨x.toNat - 247, by omega⟩
      rw [hk, show ((247 + k : Nat) : Int) = 247 + (k : Int) from by omega] at hcell
      rw [hk, show 247 + k - 247 = k from by omega]
      have hk1 : 1 ≤ k := by omega
      have hk8 : k ≤ 8 := by omega
      have hn0 : 0 < n := by omega
      clear h1 hx256 hk
      by_cases h2 : r.length < k
      · rw [if_pos h2]
        have h2' : n < 1 + k := by omega
        clear hb hl h2 hn1
        go_enter Try.func71, Try.ntmps71
        go_wp2
        go_ret3
        exact ⟨rfl, Below.refl _ _⟩
      · rw [if_neg h2]
        have hlen : (r.take k).length = k := by simp; omega
        have hvl := Num.val_lt (r.take k)
        rw [hlen] at hvl
        have hv : Num.val (r.take k) < 18446744073709551616 := Nat.lt_of_lt_of_le hvl (Nat.le_trans (Nat.pow_le_pow_right (by omega) hk8) (by decide))
        have H2 := Lib.hid (refBytes_any _ w hv)
        have h9 := Num.size_le9 hv
        have hnk : 1 + k ≤ n := by omega
        have hat : ∀ i, i < k → w.cell? (ad.add (i + 1)) = some (.int .u8 ((((r.take k)[i]?.getD 0).toNat : Nat) : Int)) := fun i hi => by
          obtain ⟨ad', e, _, hc⟩ := hb.get (k := i + 1) (by simp; omega)
          cases e
          rw [hc, List.getElem?_eq_getElem (by omega), Option.getD_some, List.getElem_take]
          rfl
        have Hat := Lib.hid hat
        clear hb hl h2 hn1 hvl hat
        generalize r.take k = t at *
        have Hlen := Lib.hid hlen; clear hlen
        clear hv
        generalize hT : (if Num.size (Num.val t) = 1 + k then (Num.val t, 1 + k, 0) else (0, 0, 2)) = T
        have HT := Lib.hid hT; clear hT
        go_enter Try.func71, Try.ntmps71
        go_wp2
        go_loopw [6, 7] (fun s i wr => ∃ (j : Nat) (y : Int), j ≤ k ∧ i = .int .i64 j ∧ s = .int .u64 y ∧ y = (Num.val (t.drop j) : Int) ∧ w = wr) (fun _ i _ => (intOf i).toNat)
        case atStart => exact ⟨k, 0, Nat.le_refl _, by go_num, rfl, by rw [List.drop_of_length_le (by rw [Hlen.out]; exact Nat.le_refl _)]; rfl, rfl⟩
        case round =>
          obtain ⟨j, y, hj, rfl, rfl, hy, rfl⟩ := hrel
          have Hy := Lib.hid hy; clear hy
          rcases j with _ | i
          · have hyv : ((Num.val t : Nat) : Int) = y := by rw [Hy.out, List.drop_zero]
            rw [hyv] at H2
            have Hyv := Lib.hid hyv; clear hyv
            have hs3 : Num.size (Num.val t) = 1 + k ∨ ¬ Num.size (Num.val t) = 1 + k := Classical.em _
            generalize hsz : Num.size (Num.val t) = s at H2 h9 hs3
            have Hsz := Lib.hid hsz; clear hsz
            generalize Num.num (Num.val t) = N at H2
            clear Hy Hat
            go_wp2_with fail
            refine H2.out.mono ?_
            rintro e w1 ⟨g, c, rfl, ho, hbl⟩
            clear H2
            rcases hs3 with h3 | h3
            · have hT := HT.out
              rw [Hsz.out, if_pos h3] at hT
              subst hT
              have h3' : (s : Int) = 1 + (247 + (k : Int) - 247) := by omega
              clear h3
              go_wp2
              go_ret3
              refine ⟨?_, hbl⟩
              show Ending.returned (.tuple #[.int .u64 y, .int .i64 (1 + (247 + (k : Int) - 247)), .int .i64 0]) = Ending.returned (.tuple #[.int .u64 ((Num.val t : Nat) : Int), .int .i64 ((1 + k : Nat) : Int), .int .i64 0])
              rw [Hyv.out, show (1 + (247 + (k : Int) - 247)) = ((1 + k : Nat) : Int) from by omega]
            · have hT := HT.out
              rw [Hsz.out, if_neg h3] at hT
              subst hT
              have h3' : ¬ ((s : Int) = 1 + (247 + (k : Int) - 247)) := by omega
              clear h3
              go_wp2
              go_ret3
              exact ⟨rfl, hbl⟩
          · have hY := Num.val_drop (l := t) (i := i) (by have := Hlen.out; omega)
            have hlt := Num.val_lt (t.drop (i + 1))
            rw [List.length_drop, Hlen.out] at hlt
            have hle : (256 : Nat) ^ (k - (i + 1)) ≤ 72057594037927936 := Nat.le_trans (Nat.pow_le_pow_right (by omega) (show k - (i + 1) ≤ 7 by omega)) (by decide)
            have hc := Hat.out i (by omega)
            rw [List.getElem?_eq_getElem (by have := Hlen.out; omega), Option.getD_some] at hc
            rw [show ad.add (i + 1) = ⟨ad.block, ad.off + (i + 1), none⟩ from by simp [Addr.add]] at hc
            have hb256 := Num.byte_lt (t[i]'(by have := Hlen.out; omega))
            generalize (t[i]'(by have := Hlen.out; omega)).toNat = b at hc hY hb256
            have hy0 : 0 ≤ y := by rw [Hy.out]; omega
            have hy1 : y ≤ 72057594037927935 := by rw [Hy.out]; omega
            have HY := Lib.hid (show y * 256 + (b : Int) = (Num.val (t.drop i) : Int) by rw [Hy.out]; omega)
            clear hlt hle hY
            go_wp2
            go_roundw
            case rel => exact ⟨i, _, by omega, by go_num, rfl, HY.out, trivial⟩
            case measure => simp [intOf]
end Go.Proofs.Ytmcioglidgbibaa
