/- lz.quadAt, lz.agreeing, lz.takeDistance, lz.takeCount: they only read. -/
import Derived.Test.YtonknkmbkfndcaaDraws
import Derived.Test.YtonknkmbkfndcaaOwn
import Derived.Test.YtonknkmbkfndcaaCuts
import Derived.Test.YtonknkmbkfndcaaLz
import Derived.Deep.QuietTactic
import Derived.BigQuiet
import Derived.WalkSpells
import Derived.WalkLawsBesides
import Derived.Laws.BitsAllLaws
namespace Go.Proofs.Ytonknkmbkfndcaa
open Go.RowKit

theorem lz_or_add (i a b : Nat) (hb : b < 2 ^ i) : b ||| a * 2 ^ i = b + a * 2 ^ i := by
  rw [Nat.or_comm, Nat.mul_comm, ← Nat.two_pow_add_eq_or_of_lt hb, Nat.add_comm]
theorem lz_u32_or_add (i a b : Nat) (hb : b < 2 ^ i) (h : b + a * 2 ^ i < 4294967296) : bits .or .u32 (b : Int) ((a * 2 ^ i : Nat) : Int) = ((b + a * 2 ^ i : Nat) : Int) := by
  rw [u32_or_nat _ _ (by omega) (by omega), lz_or_add i a b hb]
theorem lz_ors (b0 b1 b2 b3 : Nat) (h0 : b0 < 256) (h1 : b1 < 256) (h2 : b2 < 256) (h3 : b3 < 256) :
    bits .or .u32 (bits .or .u32 (bits .or .u32 (b0 : Int) ((b1 : Int) * 256)) ((b2 : Int) * 65536)) ((b3 : Int) * 16777216) = ((b0 + b1 * 256 + b2 * 65536 + b3 * 16777216 : Nat) : Int) := by
  have e1 := lz_u32_or_add 8 b1 b0 h0 (by omega)
  have e2 := lz_u32_or_add 16 b2 (b0 + b1 * 2 ^ 8) (by omega) (by omega)
  have e3 := lz_u32_or_add 24 b3 (b0 + b1 * 2 ^ 8 + b2 * 2 ^ 16) (by omega) (by omega)
  rw [show (b1 : Int) * 256 = ((b1 * 2 ^ 8 : Nat) : Int) from by omega, e1, show (b2 : Int) * 65536 = ((b2 * 2 ^ 16 : Nat) : Int) from by omega, e2, show (b3 : Int) * 16777216 = ((b3 * 2 ^ 24 : Nat) : Int) from by omega, e3]
theorem ofInt_i64 (a : Nat) (ha : a < 9223372036854775808) : (BitVec.ofInt 64 (a : Int)).toNat = a := by
  rw [BitVec.ofInt_natCast, BitVec.toNat_ofNat]; exact Nat.mod_eq_of_lt (by omega)
theorem i64_or_nat (a b : Nat) (ha : a < 9223372036854775808) (hb : b < 9223372036854775808) : bits .or .i64 (a : Int) (b : Int) = ((a ||| b : Nat) : Int) := by
  have hx : a ||| b < 2 ^ 63 := Nat.or_lt_two_pow (by omega) (by omega)
  show IntKind.i64.wrap ((BitVec.ofInt 64 (a : Int) ||| BitVec.ofInt 64 (b : Int)).toNat : Int) = _
  rw [BitVec.toNat_or, ofInt_i64 a ha, ofInt_i64 b hb]
  have : ∀ z : Int, 0 ≤ z → z < 9223372036854775808 → IntKind.i64.wrap z = z := fun z h1 h2 => by
    simp [IntKind.wrap, IntKind.bits, IntKind.signed]; omega
  exact this _ (by omega) (by omega)

theorem quiet_drawn {P : Program} {f : FuncId} {args : Array Value} {w : World} {n : Nat} {v : Value}
    (h : Calls P f args (w.drewN n) fun e w' => e = .returned v ∧ Drawn (w.drewN n) w') : Calls P f args (w.drewN n) fun e w'' => e = .returned v ∧ ∃ m, w'' = w.drewN m :=
  h.mono fun _ _ ⟨he, q, hm⟩ => ⟨he, n + q, by rw [hm]; exact World.drewN_drewN _ _ _⟩

theorem Bytes.addr {w : World} {B : Nat} {A : Option Addr} {l : List UInt8} (h : Bytes w B A l) {k : Nat} (hk : k < l.length) : ∃ ad, A = some ad := by
  obtain ⟨ad, ha, _⟩ := h.get hk
  exact ⟨ad, ha⟩
/-- a byte's cell -/
theorem Bytes.at_ {w : World} {B : Nat} {ad : Addr} {l : List UInt8} (h : Bytes w B (some ad) l) {k : Nat} (hk : k < l.length) : w.cell? (ad.add k) = some (.int .u8 (Lz.at_ l k : Int)) := by
  obtain ⟨ad', ha, _, hc⟩ := h.get hk
  cases ha
  rw [hc, Lz.at_get hk]
theorem run_index_at (ad : Addr) (n c i : Nat) (hi : i < n) (u : World) : (Instr.indexAt 22 (.slice (some ad) n c) (.int .i64 (i : Int))).run Try.prog u = .ok (.pointer (some (ad.add i))) u := by
  obtain ⟨i0, hi0, hz0, hz1, hz2⟩ := info_parts byte_info
  have he : Try.prog.elem 22 = 5 := by kernel_rfl
  rw [run_indexAt_slice _ _ _ _ _ _ _ Try.underlying22, if_pos ⟨by omega, by omega⟩, he]
  simp [sizeOf, typeInfo, hi0, hz1]

set_option maxHeartbeats 1000000 in
theorem quadAt_any (A : Option Addr) (n cap B i : Nat) (l : List UInt8) (w : World) (hl : l.length = n) (hn : i + 4 ≤ n) (hm : n ≤ 281474976710656) (hb : Bytes w B A l) :
    Calls Try.prog 26 #[.slice A n cap, .int .i64 (i : Int)] w fun e w' => e = .returned (.int .u32 ((Lz.quad l i : Nat) : Int)) ∧ Drawn w w' := by
  obtain ⟨ad, rfl⟩ := hb.addr (k := i) (by omega)
  have c0 := hb.at_ (k := i) (by omega)
  have c1 := hb.at_ (k := i + 1) (by omega)
  have c2 := hb.at_ (k := i + 2) (by omega)
  have c3 := hb.at_ (k := i + 3) (by omega)
  have h0 := Lz.at_lt l i
  have h1 := Lz.at_lt l (i + 1)
  have h2 := Lz.at_lt l (i + 2)
  have h3 := Lz.at_lt l (i + 3)
  have hw0 : Lz.quad l i = Lz.at_ l i + 256 * Lz.at_ l (i + 1) + 65536 * Lz.at_ l (i + 2) + 16777216 * Lz.at_ l (i + 3) := rfl
  have hw := Lib.hid hw0; clear hw0
  have x0 := run_index_at ad n cap i (by omega)
  have x1 := run_index_at ad n cap (i + 1) (by omega)
  have x2 := run_index_at ad n cap (i + 2) (by omega)
  have x3 := run_index_at ad n cap (i + 3) (by omega)
  rw [show ((i + 1 : Nat) : Int) = (i : Int) + 1 from by omega] at x1
  rw [show ((i + 2 : Nat) : Int) = (i : Int) + 2 from by omega] at x2
  rw [show ((i + 3 : Nat) : Int) = (i : Int) + 3 from by omega] at x3
  generalize Lz.at_ l i = b0 at *
  generalize Lz.at_ l (i + 1) = b1 at *
  generalize Lz.at_ l (i + 2) = b2 at *
  generalize Lz.at_ l (i + 3) = b3 at *
  clear hb
  generalize ad.add i = p0 at *
  generalize ad.add (i + 1) = p1 at *
  generalize ad.add (i + 2) = p2 at *
  generalize ad.add (i + 3) = p3 at *
  have hi0 : (0 : Int) ≤ (i : Int) := by omega
  have hi1 : (i : Int) + 3 < (n : Int) := by omega
  clear hl
  go_enter Try.func26, Try.ntmps26
  go_wp2_with fail
  go_quiet (fail)
  go_wp2
  go_ret
  refine ⟨?_, _, rfl⟩
  rw [hw.out]
  refine congrArg (fun x => Ending.returned (.int .u32 x)) ((lz_ors b0 b1 b2 b3 h0 h1 h2 h3).trans (by omega))

set_option maxHeartbeats 1000000 in
theorem agreeing_any (A : Option Addr) (n cap B k i : Nat) (l : List UInt8) (w : World) (hl : l.length = n) (hk : k < i) (hi : i ≤ n) (hm : n ≤ 281474976710656) (hb : Bytes w B A l) :
    Calls Try.prog 17 #[.slice A n cap, .int .i64 (k : Int), .int .i64 (i : Int)] w fun e w' => e = .returned (.int .i64 ((Lz.cpl (l.drop k) (l.drop i) : Nat) : Int)) ∧ Drawn w w' := by
  have hle := Lz.cpl_le (b := l) hk (by omega)
  have Hl := Lib.hid hl
  generalize hN : Lz.cpl (l.drop k) (l.drop i) = N at *
  have HN := Lib.hid hN; clear hN
  rw [hl] at hle
  clear hl
  go_enter Try.func17, Try.ntmps17
  go_wp2
  go_loopw [7] (fun s wr => ∃ (j : Nat), j ≤ N ∧ s = .int .i64 j ∧ j + Lz.cpl (l.drop (k + j)) (l.drop (i + j)) = N ∧ Bytes wr B A l ∧ Drawn w wr) (fun s _ => N - (intOf s).toNat)
  case atStart => exact ⟨0, Nat.zero_le _, rfl, by rw [Nat.zero_add]; exact HN.out, hb, Drawn.refl _⟩
  case round =>
    clear hb HN
    obtain ⟨j, hj, rfl, hc, hb, hd⟩ := hrel
    have hs := Lz.cpl_step (b := l) (k := k + j) (i := i + j) (by omega)
    by_cases h1 : i + j < n
    · have h1' : i + j < l.length := by have := Hl.out; omega
      have d1 : decide ((i : Int) + (j : Int) < (n : Int)) = true := decide_eq_true (by omega)
      have h1'' : (i : Int) + (j : Int) < (n : Int) := by omega
      obtain ⟨ad, rfl⟩ := hb.addr (k := i + j) h1'
      have c0 := hb.at_ (k := k + j) (by omega)
      have c1 := hb.at_ (k := i + j) h1'
      have x0 := run_index_at ad n cap (k + j) (by omega)
      have x1 := run_index_at ad n cap (i + j) (by omega)
      rw [Int.natCast_add] at x0 x1
      have Hc := Lib.hid hc; clear hc
      have HB := Lib.hid hb; clear hb
      by_cases h2 : Lz.at_ l (k + j) = Lz.at_ l (i + j)
      · rw [if_pos ⟨h1', h2⟩] at hs
        have Hs := Lib.hid hs; clear hs
        have hjN : j + 1 ≤ N := by have := Hc.out; rw [Hs.out] at this; omega
        rw [h2] at c0
        generalize Lz.at_ l (i + j) = z at *
        generalize ad.add (k + j) = p0 at *
        generalize ad.add (i + j) = p1 at *
        have d2 : ((z : Int) == (z : Int)) = true := by simp
        clear h2 h1'
        go_wp2_with fail
        go_quiet (fail)
        go_wp2
        go_roundw
        case rel => exact ⟨j + 1, hjN, by go_num, by rw [← Hc.out, Hs.out]; simp only [Nat.add_assoc]; omega, HB.out, hd.drewN _⟩
        case measure => simp [intOf]; omega
      · rw [if_neg (fun e => h2 e.2)] at hs
        have d2 : (((Lz.at_ l (k + j) : Nat) : Int) == ((Lz.at_ l (i + j) : Nat) : Int)) = false := by simp; omega
        have hjN : j = N := by have := Hc.out; rw [hs] at this; omega
        generalize Lz.at_ l (k + j) = z0 at *
        generalize Lz.at_ l (i + j) = z at *
        generalize ad.add (k + j) = p0 at *
        generalize ad.add (i + j) = p1 at *
        clear h2 h1' hs Hc
        have HjN := Lib.hid hjN; clear hjN
        go_wp2_with fail
        go_quiet (fail)
        go_wp2
        go_ret
        exact ⟨congrArg (fun x : Nat => Ending.returned (.int .i64 (x : Int))) HjN.out, hd.drewN _⟩
    · rw [if_neg (by have := Hl.out; omega)] at hs
      have hjN : j = N := by rw [hs] at hc; omega
      have HjN := Lib.hid hjN
      have d1 : decide ((i : Int) + (j : Int) < (n : Int)) = false := decide_eq_false (by omega)
      have h1'' : ¬ ((i : Int) + (j : Int) < (n : Int)) := by omega
      clear hjN hs hc hb
      go_wp2_with fail
      go_quiet (fail)
      go_wp2
      go_ret
      exact ⟨congrArg (fun x : Nat => Ending.returned (.int .i64 (x : Int))) HjN.out, hd.drewN _⟩

/-- what takeCount answers -/
def CountPost (w : World) (B : Nat) (r : Option (Nat × List UInt8)) (e : Ending) (w' : World) : Prop :=
  (match r with
    | none => e = .returned (.tuple #[.int .i64 0, .slice none 0 0, .bool false])
    | some (c, t) => ∃ A cap, e = .returned (.tuple #[.int .i64 (c : Int), .slice A t.length cap, .bool true]) ∧ Bytes w' B A t ∧ t.length ≤ cap) ∧ Drawn w w'

theorem bytes_drawn {w w' : World} {B : Nat} {A : Option Addr} {l : List UInt8} (h : Bytes w B A l) (hd : Drawn w w') : Bytes w' B A l := h.below (hd.below B)

set_option maxHeartbeats 1000000 in
theorem takeCount_any (A : Option Addr) (n cap B h : Nat) (l : List UInt8) (w : World) (hl : l.length = n) (hcap : n ≤ cap) (hh : h ≤ 15) (hm : n ≤ 281474976710656) (hb : Bytes w B A l) :
    Calls Try.prog 22 #[.slice A n cap, .int .i64 (h : Int)] w (CountPost w B (Lz.takeCount h l)) := by
  by_cases h15 : h < 15
  · have e : Lz.takeCount h l = some (h, l) := by unfold Lz.takeCount; rw [if_pos h15]
    rw [e]
    have h15' : (h : Int) < 15 := by omega
    have Hl := Lib.hid hl; clear hl
    clear e h15
    go_enter Try.func22, Try.ntmps22
    go_wp2
    go_ret3
    refine ⟨⟨A, cap, ?_, hb, by rw [Hl.out]; exact hcap⟩, Drawn.refl _⟩
    rw [Hl.out]
    rfl
  · have e : Lz.takeCount h l = Lz.takeExt 15 l := by unfold Lz.takeCount; rw [if_neg h15]
    rw [e]
    obtain rfl : h = 15 := by omega
    generalize hR : Lz.takeExt 15 l = R
    have HR := Lib.hid hR
    have Hl := Lib.hid hl
    clear hR hl e h15 hh
    go_enter Try.func22, Try.ntmps22
    go_wp2
    go_loopw [4, 15] (fun c i wr => ∃ (j : Nat), j ≤ n ∧ i = .int .i64 j ∧ c = .int .i64 (15 + 255 * (j : Int)) ∧ Lz.takeExt (15 + 255 * j) (l.drop j) = R ∧ w = wr) (fun _ i _ => n - (intOf i).toNat)
    case atStart => exact ⟨0, Nat.zero_le _, rfl, rfl, HR.out, rfl⟩
    case round =>
      clear HR
      obtain ⟨j, hj, rfl, rfl, hR, rfl⟩ := hrel
      have HR := Lib.hid hR; clear hR
      by_cases hlt : j < n
      · have hjl : j < l.length := by have := Hl.out; omega
        obtain ⟨ad, rfl⟩ := hb.addr hjl
        have hcell := hb.at_ hjl
        have hx := Lz.at_lt l j
        have hstep : Lz.takeExt (15 + 255 * j) (l.drop j) = if Lz.at_ l j = 255 then Lz.takeExt (15 + 255 * (j + 1)) (l.drop (j + 1)) else some (15 + 255 * j + Lz.at_ l j, l.drop (j + 1)) := by
          rw [List.drop_eq_getElem_cons hjl, Lz.takeExt, Lz.at_get hjl, show 15 + 255 * j + 255 = 15 + 255 * (j + 1) from by omega]
        rw [HR.out] at hstep
        have Hst := Lib.hid hstep
        clear hstep
        have hlt' : (j : Int) < (n : Int) := by omega
        have hj0 : (0 : Int) ≤ (j : Int) := by omega
        have hidx := run_index_at ad n cap j hlt
        have hcut := hb.cut (k := j + 1) (cap := cap) (by omega) (by have := Hl.out; omega)
        have hrun := run_cut_l (some ad) n cap (j + 1) (by omega)
        rw [show ((j + 1 : Nat) : Int) = (j : Int) + 1 from by omega] at hrun
        have HB := Lib.hid hb; clear hb
        have HC := Lib.hid hcut; clear hcut
        generalize Lz.at_ l j = x at *
        generalize ad.add j = p at *
        generalize cutAt (some ad) cap (j + 1) = A' at *
        by_cases h255 : x = 255
        · have h3 := Hst.out
          rw [if_pos h255] at h3
          replace h3 := Lib.hid h3
          subst h255
          clear Hst HC hrun
          go_wp2
          go_roundw
          case rel => exact ⟨j + 1, by omega, by go_num, congrArg (Value.int .i64) (by omega), h3.out.symm, trivial⟩
          case measure => simp [intOf]; omega
        · have h3 := Hst.out
          rw [if_neg h255] at h3
          have h255' : ¬ ((x : Int) = 255) := by omega
          replace h3 := Lib.hid h3
          clear Hst h255
          go_wp2_with fail
          go_quiet (fail)
          go_wp2
          go_ret3
          rw [h3.out]
          refine ⟨⟨A', cap - (j + 1), ?_, bytes_drawn HC.out ⟨_, rfl⟩, by rw [List.length_drop, Hl.out]; omega⟩, ⟨_, rfl⟩⟩
          rw [List.length_drop, Hl.out]
          go_num
      · obtain rfl : j = n := by omega
        have h3 : R = none := by rw [← HR.out, List.drop_of_length_le (by rw [Hl.out]; exact Nat.le_refl _)]; rfl
        replace h3 := Lib.hid h3
        go_wp2
        go_ret3
        rw [h3.out]
        exact ⟨rfl, Drawn.refl _⟩

/-- what takeDistance answers -/
def DistPost (w : World) (B : Nat) (l : List UInt8) (e : Ending) (w' : World) : Prop :=
  (if l.length < 2 then e = .returned (.tuple #[.int .i64 0, .slice none 0 0, .bool false])
    else ∃ A cap, e = .returned (.tuple #[.int .i64 ((Lz.at_ l 0 + 256 * Lz.at_ l 1 : Nat) : Int), .slice A (l.length - 2) cap, .bool (decide (0 < Lz.at_ l 0 + 256 * Lz.at_ l 1))]) ∧ Bytes w' B A (l.drop 2) ∧ l.length - 2 ≤ cap) ∧ Drawn w w'

set_option maxHeartbeats 1000000 in
theorem takeDistance_any (A : Option Addr) (n cap B : Nat) (l : List UInt8) (w : World) (hl : l.length = n) (hcap : n ≤ cap) (hm : n ≤ 281474976710656) (hb : Bytes w B A l) :
    Calls Try.prog 23 #[.slice A n cap] w (DistPost w B l) := by
  unfold DistPost
  by_cases h2 : n < 2
  · simp only [hl, if_pos h2]
    have h2' : (n : Int) < 2 := by omega
    go_enter Try.func23, Try.ntmps23
    go_wp2
    go_ret3
    exact ⟨rfl, Drawn.refl _⟩
  · simp only [hl, if_neg h2]
    obtain ⟨ad, rfl⟩ := hb.addr (k := 0) (by omega)
    have c0 := hb.at_ (k := 0) (by omega)
    have c1 := hb.at_ (k := 1) (by omega)
    have x0 := run_index_at ad n cap 0 (by omega)
    have x1 := run_index_at ad n cap 1 (by omega)
    rw [Int.natCast_zero] at x0
    rw [Int.natCast_one] at x1
    have h0 := Lz.at_lt l 0
    have h1 := Lz.at_lt l 1
    have hcut := hb.cut (k := 2) (cap := cap) (by omega) (by omega)
    have hrun := run_cut_l (some ad) n cap 2 (by omega)
    rw [show ((2 : Nat) : Int) = (2 : Int) from rfl] at hrun
    have hor : bits .or .i64 ((Lz.at_ l 0 : Nat) : Int) (((Lz.at_ l 1 : Nat) : Int) * 256) = ((Lz.at_ l 0 + 256 * Lz.at_ l 1 : Nat) : Int) := by
      rw [show ((Lz.at_ l 1 : Nat) : Int) * 256 = ((Lz.at_ l 1 * 2 ^ 8 : Nat) : Int) from by omega, i64_or_nat _ _ (by omega) (by omega), lz_or_add 8 _ _ h0]
      omega
    have h2' : ¬ ((n : Int) < 2) := by omega
    have HC := Lib.hid hcut; clear hcut
    generalize hD : Lz.at_ l 0 + 256 * Lz.at_ l 1 = D at *
    generalize Lz.at_ l 0 = z0 at *
    generalize Lz.at_ l 1 = z1 at *
    generalize ad.add 0 = p0 at *
    generalize ad.add 1 = p1 at *
    generalize cutAt (some ad) cap 2 = A' at *
    have hD2 : D < 65536 := by omega
    clear hb hl h2 hD
    have hd : decide ((0 : Int) < (D : Int)) = decide (0 < D) := by by_cases h : 0 < D <;> simp [h] <;> omega
    have Hd := Lib.hid hd; clear hd
    go_enter Try.func23, Try.ntmps23
    go_wp2_with fail
    go_quiet (fail)
    go_wp2_with fail
    go_quiet (fail)
    go_wp2
    go_ret3
    refine ⟨⟨A', cap - 2, ?_, bytes_drawn HC.out ⟨_, World.drewN_drewN _ _ _⟩, by omega⟩, ⟨_, World.drewN_drewN _ _ _⟩⟩
    rw [← Hd.out]
    go_num
end Go.Proofs.Ytonknkmbkfndcaa
