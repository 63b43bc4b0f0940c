/- num.readNumber, num.Take, num.TakeInt; the document's Take. -/
import Derived.Test.YtmcioglidgbibaaRefNum
import Derived.Test.YtmcioglidgbibaaCuts
import Derived.Laws.BitsAllLaws
namespace Go.Proofs.Ytmcioglidgbibaa
open Go.RowKit
set_option maxRecDepth 100000

theorem or_at {Y b k : Nat} {y : Int} (hy : y = (Y : Int)) (hY : Y < 256 ^ k) (hb : b < 256) (hk : k ≤ 7) : bits .or .u64 y (IntKind.u64.wrap ((b : Int) * 2 ^ (8 * k))) = ((Y + b * 256 ^ k : Nat) : Int) := by
  have hp : (256 : Nat) ^ (k + 1) ≤ 18446744073709551616 := Nat.le_trans (Nat.pow_le_pow_right (by omega) (show k + 1 ≤ 8 by omega)) (by decide)
  have h1 : b * 256 ^ k < 256 ^ (k + 1) := by rw [Nat.pow_succ, Nat.mul_comm (256 ^ k)]; exact Nat.mul_lt_mul_of_pos_right hb (Nat.pow_pos (by omega))
  have hY2 : Y < 18446744073709551616 := Nat.lt_of_lt_of_le hY (Nat.le_trans (Nat.pow_le_pow_right (by omega) (show k ≤ 8 by omega)) (by decide))
  have e : (b : Int) * 2 ^ (8 * k) = ((b * 256 ^ k : Nat) : Int) := by rw [Int.natCast_mul, Int.natCast_pow, Int.pow_mul]; rfl
  have hw : IntKind.u64.wrap ((b * 256 ^ k : Nat) : Int) = ((b * 256 ^ k : Nat) : Int) := by
    have : IntKind.u64.wrap ((b * 256 ^ k : Nat) : Int) = ((b * 256 ^ k : Nat) : Int) % 18446744073709551616 := by simp [IntKind.wrap, IntKind.bits, IntKind.signed]
    rw [this]
    omega
  rw [e, hw, hy, u64_or_nat Y (b * 256 ^ k) hY2 (by omega)]
  congr 1
  have h2 : (256 : Nat) ^ k = 2 ^ (8 * k) := by rw [Nat.pow_mul]
  rw [h2] at hY ⊢
  have := Nat.two_pow_add_eq_or_of_lt hY b
  rw [Nat.or_comm, Nat.mul_comm b, ← this]
  omega
theorem Num.val_take_succ {l : List UInt8} {k : Nat} (hk : k < l.length) : Num.val (l.take (k + 1)) = Num.val (l.take k) + l[k].toNat * 256 ^ k := by
  rw [List.take_succ_eq_append_getElem hk, Num.val_snoc, List.length_take, Nat.min_eq_left (by omega)]
theorem Num.val_take_lt {l : List UInt8} {k : Nat} (hk : k ≤ l.length) : Num.val (l.take k) < 256 ^ k := by
  have := Num.val_lt (l.take k)
  rwa [List.length_take, Nat.min_eq_left hk] at this

set_option maxHeartbeats 1000000 in
theorem readNumber_any (A : Option Addr) (n cap B : Nat) (l : List UInt8) (w : World) (hl : l.length = n) (hn : n ≤ 8) (hb : Bytes w B A l) :
    Calls Try.prog 57 #[.slice A n cap] w fun e w' => e = .returned (.int .u64 (Num.val l : Int)) ∧ w = w' := by
  have Hl := Lib.hid hl; clear hl
  go_enter Try.func57, Try.ntmps57
  go_wp2
  go_loopw [3, 8] (fun s i wr => ∃ (k : Nat) (y : Int), k ≤ n ∧ i = .int .i64 k ∧ s = .int .u64 y ∧ y = (Num.val (l.take k) : Int) ∧ w = wr) (fun _ i _ => n - (intOf i).toNat)
  case atStart => exact ⟨0, 0, by omega, rfl, rfl, rfl, rfl⟩
  case round =>
    obtain ⟨k, y, hk, rfl, rfl, hy, rfl⟩ := hrel
    have Hy := Lib.hid hy; clear hy
    by_cases hlt : k < n
    · have hk' : k < l.length := by have := Hl.out; omega
      obtain ⟨ad, rfl, hlt', hcell⟩ := hb.get hk'
      have hb256 : l[k].toNat < 256 := Num.byte_lt _
      have Hor := Lib.hid (or_at Hy.out (Num.val_take_lt (by omega)) hb256 (by omega))
      rw [← Num.val_take_succ hk'] at Hor
      generalize l[k].toNat = b at hcell hb256 Hor
      go_wp2
      go_roundw
      case rel => exact ⟨k + 1, _, by omega, by go_num, rfl, Hor.out, trivial⟩
      case measure => simp [intOf]; omega
    · obtain rfl : k = n := by omega
      go_wp2
      go_ret
      refine ⟨?_, rfl⟩
      rw [Hy.out, List.take_of_length_le (by rw [Hl.out]; exact Nat.le_refl _)]
      rfl

/-- what Take answers -/
def TakePost (w : World) (l : List UInt8) (e : Ending) (w' : World) : Prop :=
  e = .returned (.tuple #[.int .u64 ((Num.take l).1 : Int), .int .i64 ((Num.take l).2.1 : Int), .int .i64 ((Num.take l).2.2 : Int)]) ∧ w = w'

set_option maxHeartbeats 1000000 in
theorem take_any (A : Option Addr) (n cap B : Nat) (l : List UInt8) (w : World) (hl : l.length = n) (hcap : n ≤ cap) (hm : n ≤ 281474976710656) (hb : Bytes w B A l) :
    Calls Try.prog 44 #[.slice A n cap] w (TakePost w l) := by
  rcases l with _ | ⟨x, r⟩
  · obtain rfl : 0 = n := by simpa using hl
    go_enter Try.func44, Try.ntmps44
    go_wp2
    go_ret3
    exact ⟨rfl, rfl⟩
  · have hcell := hb.get (k := 0) (by simp)
    obtain ⟨ad, rfl, hlt, hcell⟩ := hcell
    simp only [List.getElem_cons_zero, Addr.add, if_true] at hcell
    have hx256 := Num.byte_lt x
    have hn1 : r.length + 1 = n := by simpa using hl
    unfold TakePost
    rw [Num.take_cons]
    by_cases h1 : x.toNat ≤ 247
    · rw [if_pos h1]
      clear hb hl
      generalize x.toNat = b at *
      go_enter Try.func44, Try.ntmps44
      go_wp2
      go_ret3
      exact ⟨rfl, rfl⟩
    · rw [if_neg h1]
      obtain ⟨k, hk⟩ : ∃ k, x.toNat = 247 + k := ⟨x.toNat - 247, by omega⟩
      rw [hk, show ((247 + k : Nat) : Int) = 247 + (k : Int) from by omega] at hcell
      rw [hk, show 247 + k - 247 = k from by omega]
      have hk1 : 1 ≤ k := by omega
      have hk8 : k ≤ 8 := by omega
      have hn0 : 0 < n := by omega
      clear h1 hx256 hk
      by_cases h2 : r.length < k
      · rw [if_pos h2]
        have h2' : n < 1 + k := by omega
        clear hb hl h2 hn1
        go_enter Try.func44, Try.ntmps44
        go_wp2
        go_ret3
        exact ⟨rfl, rfl⟩
      · rw [if_neg h2]
        have hbc := (hb.cut (k := 1) (cap := cap) (by simp) (by omega)).take k
        rw [List.drop_succ_cons, List.drop_zero] at hbc
        have hlen : (r.take k).length = k := by simp; omega
        have hvl := Num.val_lt (r.take k)
        rw [hlen] at hvl
        have hv : Num.val (r.take k) < 18446744073709551616 := Nat.lt_of_lt_of_le hvl (Nat.le_trans (Nat.pow_le_pow_right (by omega) hk8) (by decide))
        have hsl := run_cut_lh (some ad) n cap 1 (1 + k) (by omega) (by omega)
        rw [show 1 + k - 1 = k from by omega, show ((1 + k : Nat) : Int) = 1 + (247 + (k : Int) - 247) from by omega, Int.natCast_one] at hsl
        have H1 := Lib.hid (readNumber_any (cutAt (some ad) cap 1) k (cap - 1) B _ w hlen hk8 hbc)
        generalize cutAt (some ad) cap 1 = A' at hsl H1
        have H2 := Lib.hid (encodedSize_any _ w hv)
        have h9 := Num.size_le9 hv
        have hnk : 1 + k ≤ n := by omega
        clear hb hl hbc hlen hvl hv h2 hn1
        generalize Num.size (Num.val (r.take k)) = s at *
        generalize Num.val (r.take k) = V at *
        obtain ⟨y, hy⟩ : ∃ y : Int, y = (V : Int) := ⟨_, rfl⟩
        rw [← hy] at H1 H2
        by_cases h3 : s = 1 + k
        · rw [if_pos h3, ← hy]
          subst h3
          clear hy
          go_enter Try.func44, Try.ntmps44
          go_wp2_with fail
          refine H1.out.mono ?_
          rintro e w1 ⟨rfl, rfl⟩
          clear H1
          go_wp2_with fail
          refine H2.out.mono ?_
          rintro e w1 ⟨rfl, rfl⟩
          clear H2 hsl
          go_wp2
          go_ret3
          exact ⟨by go_num, rfl⟩
        · rw [if_neg h3]
          clear hy
          have h3' : ¬ ((s : Int) = 1 + (247 + (k : Int) - 247)) := by omega
          go_enter Try.func44, Try.ntmps44
          go_wp2_with fail
          refine H1.out.mono ?_
          rintro e w1 ⟨rfl, rfl⟩
          clear H1
          go_wp2_with fail
          refine H2.out.mono ?_
          rintro e w1 ⟨rfl, rfl⟩
          clear H2 hsl
          go_wp2
          go_ret3
          exact ⟨rfl, rfl⟩
end Go.Proofs.Ytmcioglidgbibaa
